package mailbox_test

import (
	"go/ast"
	"go/parser"
	"go/token"
	"os"
	"strconv"
	"strings"
	"testing"
)

// The layer stands on api: it imports no other package of the program. Who waits
// does so under a mutex, and lists are pushed by goroutines.

func TestWhatItStandsOn(t *testing.T) {
	var mutexes, goroutines int
	for _, file := range sources(t) {
		for _, one := range file.Imports {
			name, err := strconv.Unquote(one.Path.Value)
			if err != nil || strings.HasPrefix(name, "spinet") && name != "spinet/api" || name == "time" {
				t.Errorf("%s is imported", one.Path.Value)
			}
		}
		ast.Inspect(file, func(n ast.Node) bool {
			switch n := n.(type) {
			case *ast.SelectorExpr:
				if pack, ok := n.X.(*ast.Ident); ok && pack.Name == "sync" && n.Sel.Name == "Mutex" {
					mutexes++
				}
			case *ast.GoStmt:
				goroutines++
			}
			return true
		})
	}
	if mutexes == 0 || goroutines == 0 {
		t.Errorf("%d mutexes, and %d go statements", mutexes, goroutines)
	}
}

// sources are the package's files, but for its tests.
func sources(t *testing.T) []*ast.File {
	t.Helper()
	entries, err := os.ReadDir(".")
	if err != nil {
		t.Fatal(err)
	}
	var files []*ast.File
	for _, one := range entries {
		if !strings.HasSuffix(one.Name(), ".go") || strings.HasSuffix(one.Name(), "_test.go") {
			continue
		}
		file, err := parser.ParseFile(token.NewFileSet(), one.Name(), nil, 0)
		if err != nil {
			t.Fatal(err)
		}
		files = append(files, file)
	}
	if len(files) == 0 {
		t.Fatal("no files")
	}
	return files
}
