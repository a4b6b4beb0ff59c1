package engine_test

import (
	"go/ast"
	"go/parser"
	"go/token"
	"maps"
	"os"
	"path"
	"slices"
	"strconv"
	"strings"
	"testing"
)

// The package calls layers 11 and 14, and imports none of the others.

func TestWhichLayersItCalls(t *testing.T) {
	calls := map[string]map[string]int{"spinet/api": {}, "spinet/act": {}, "spinet/table": {}}
	for _, file := range sources(t) {
		countCalls(t, file, calls)
	}
	for name, of := range map[string]string{"spinet/act": "Do", "spinet/table": "Table"} {
		if calls[name][of] == 0 {
			t.Errorf("%s of %s is nowhere asked for, just %v", of, name, slices.Sorted(maps.Keys(calls[name])))
		}
	}
}

// countCalls counts, for each of these packages, what a file asks of it.
func countCalls(t *testing.T, file *ast.File, calls map[string]map[string]int) {
	t.Helper()
	names := map[string]string{}
	for _, one := range file.Imports {
		name, err := strconv.Unquote(one.Path.Value)
		if _, may := calls[name]; err != nil || strings.HasPrefix(name, "spinet") && !may || one.Name != nil {
			t.Errorf("%s is imported", one.Path.Value)
		}
		names[path.Base(name)] = name
	}
	ast.Inspect(file, func(n ast.Node) bool {
		if of, ok := n.(*ast.SelectorExpr); ok {
			if pack, ok := of.X.(*ast.Ident); ok && calls[names[pack.Name]] != nil {
				calls[names[pack.Name]][of.Sel.Name]++
			}
		}
		return true
	})
}

// sources are the package's files, but for its tests.
func sources(t *testing.T) []*ast.File {
	t.Helper()
	entries, err := os.ReadDir(".")
	if err != nil {
		t.Fatal(err)
	}
	var files []*ast.File
	for _, one := range entries {
		if !strings.HasSuffix(one.Name(), ".go") || strings.HasSuffix(one.Name(), "_test.go") {
			continue
		}
		file, err := parser.ParseFile(token.NewFileSet(), one.Name(), nil, 0)
		if err != nil {
			t.Fatal(err)
		}
		files = append(files, file)
	}
	if len(files) == 0 {
		t.Fatal("no files")
	}
	return files
}
