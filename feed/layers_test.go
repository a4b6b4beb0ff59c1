package feed_test

import (
	"go/parser"
	"go/token"
	"os"
	"strconv"
	"strings"
	"testing"
)

// The layer stands on api: it imports no other package of the program, and no clock.

func TestWhatItStandsOn(t *testing.T) {
	entries, err := os.ReadDir(".")
	if err != nil {
		t.Fatal(err)
	}
	var files int
	for _, one := range entries {
		if !strings.HasSuffix(one.Name(), ".go") || strings.HasSuffix(one.Name(), "_test.go") {
			continue
		}
		files++
		file, err := parser.ParseFile(token.NewFileSet(), one.Name(), nil, parser.ImportsOnly)
		if err != nil {
			t.Fatal(err)
		}
		for _, one := range file.Imports {
			name, err := strconv.Unquote(one.Path.Value)
			if err != nil || strings.HasPrefix(name, "spinet") && name != "spinet/api" || name == "time" {
				t.Errorf("%s is imported", one.Path.Value)
			}
		}
	}
	if files == 0 {
		t.Error("no files")
	}
}
