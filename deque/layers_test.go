package deque_test

import (
	"go/ast"
	"go/parser"
	"go/token"
	"os"
	"strconv"
	"strings"
	"testing"
)

// The layer stands on no other: it imports no package of the program, and no clock. The
// row is a generic type.

func TestWhatItStandsOn(t *testing.T) {
	for _, file := range sources(t) {
		for _, one := range file.Imports {
			name, err := strconv.Unquote(one.Path.Value)
			if err != nil || strings.HasPrefix(name, "spinet") || name == "time" {
				t.Errorf("%s is imported", one.Path.Value)
			}
		}
	}
}

func TestWays(t *testing.T) {
	var generic int
	for _, file := range sources(t) {
		ast.Inspect(file, func(n ast.Node) bool {
			if n, ok := n.(*ast.TypeSpec); ok && n.Name.Name == "Deque" && n.TypeParams.NumFields() == 1 {
				generic++
			}
			return true
		})
	}
	if generic != 1 {
		t.Errorf("%d generic types Deque", generic)
	}
}

// sources are the package's files, but for its tests.
func sources(t *testing.T) []*ast.File {
	t.Helper()
	entries, err := os.ReadDir(".")
	if err != nil {
		t.Fatal(err)
	}
	var files []*ast.File
	for _, one := range entries {
		if !strings.HasSuffix(one.Name(), ".go") || strings.HasSuffix(one.Name(), "_test.go") {
			continue
		}
		file, err := parser.ParseFile(token.NewFileSet(), one.Name(), nil, 0)
		if err != nil {
			t.Fatal(err)
		}
		files = append(files, file)
	}
	if len(files) == 0 {
		t.Fatal("no files")
	}
	return files
}
