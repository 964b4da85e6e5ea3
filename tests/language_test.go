package tests

// What ../shared/LANGUAGE.md asks of the program's text, as far as a short look can tell.

import (
	"go/ast"
	"go/parser"
	"go/token"
	"path/filepath"
	"strings"
	"testing"
)

const (
	allowedImports  = " bytes cmp container/heap errors iter maps math math/big math/bits slices sort strconv strings sync sync/atomic unicode unicode/utf8 "
	mostLinesOfFunc = 60
)

func TestLanguageOfTheProgram(t *testing.T) {
	paths, _ := filepath.Glob("../impl/*.go")
	if len(paths) == 0 {
		t.Fatal("no program")
	}
	fset := token.NewFileSet()
	for _, path := range paths {
		file, err := parser.ParseFile(fset, path, nil, parser.ParseComments)
		if err != nil {
			t.Fatal(err)
		}
		for _, i := range file.Imports {
			if !strings.Contains(allowedImports, " "+strings.Trim(i.Path.Value, `"`)+" ") {
				t.Error(path, "imports", i.Path.Value)
			}
		}
		for _, c := range file.Comments {
			if strings.HasPrefix(c.List[0].Text, "//go:") {
				t.Error(path, "has", c.List[0].Text)
			}
		}
		for _, d := range file.Decls {
			f, ok := d.(*ast.FuncDecl)
			if ok && fset.Position(f.End()).Line-fset.Position(f.Pos()).Line >= mostLinesOfFunc {
				t.Error(path, f.Name.Name, "is too long")
			}
		}
	}
}
