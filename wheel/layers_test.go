package wheel_test

import (
	"go/ast"
	"go/importer"
	"go/parser"
	"go/token"
	"go/types"
	"os"
	"strconv"
	"strings"
	"testing"
)

// The layer stands on api: it imports no other package of the program, and no clock.
// The spokes are an array; what is cancelled is taken out of a map by delete. No map
// is gone through, as what is told would hang on its order.

func TestWhatItStandsOn(t *testing.T) {
	for _, file := range sources(t, token.NewFileSet()) {
		for _, one := range file.Imports {
			name, err := strconv.Unquote(one.Path.Value)
			if err != nil || strings.HasPrefix(name, "spinet") && name != "spinet/api" || name == "time" {
				t.Errorf("%s is imported", one.Path.Value)
			}
		}
	}
}

func TestWays(t *testing.T) {
	set := token.NewFileSet()
	files := sources(t, set)
	info := &types.Info{Types: map[ast.Expr]types.TypeAndValue{}, Uses: map[*ast.Ident]types.Object{}}
	config := types.Config{Importer: importer.ForCompiler(set, "source", nil)}
	if _, err := config.Check("spinet/wheel", set, files, info); err != nil {
		t.Fatal(err)
	}
	var arrays, deletes int
	for _, file := range files {
		ast.Inspect(file, func(n ast.Node) bool {
			switch n := n.(type) {
			case *ast.ArrayType:
				if n.Len != nil {
					arrays++
				}
			case *ast.Ident:
				if info.Uses[n] == types.Universe.Lookup("delete") {
					deletes++
				}
			case *ast.RangeStmt:
				if _, ok := info.Types[n.X].Type.Underlying().(*types.Map); ok {
					t.Errorf("%s: a map is gone through", set.Position(n.Pos()))
				}
			}
			return true
		})
	}
	if arrays == 0 || deletes == 0 {
		t.Errorf("%d arrays, and %d deletes", arrays, deletes)
	}
}

// sources are the package's files, but for its tests.
func sources(t *testing.T, set *token.FileSet) []*ast.File {
	t.Helper()
	entries, err := os.ReadDir(".")
	if err != nil {
		t.Fatal(err)
	}
	var files []*ast.File
	for _, one := range entries {
		if !strings.HasSuffix(one.Name(), ".go") || strings.HasSuffix(one.Name(), "_test.go") {
			continue
		}
		file, err := parser.ParseFile(set, one.Name(), nil, 0)
		if err != nil {
			t.Fatal(err)
		}
		files = append(files, file)
	}
	if len(files) == 0 {
		t.Fatal("no files")
	}
	return files
}
