package tests

import (
	"bytes"
	"go/ast"
	"go/format"
	"go/parser"
	"go/token"
	"os"
	"path/filepath"
	"strings"
	"testing"
)

const (
	allowedImports = " bytes cmp container/heap errors iter maps math math/big math/bits slices sort strconv strings sync sync/atomic unicode unicode/utf8 "
	longestBody    = 60
)

// The language page's rules that can be seen file by file.
func TestLanguage(t *testing.T) {
	files, err := filepath.Glob("../impl/*")
	if err != nil || len(files) == 0 {
		t.Fatal("no files of the program", err)
	}
	for _, name := range files {
		if !strings.HasSuffix(name, ".go") {
			t.Errorf("%s is no Go file", name)
			continue
		}
		source, err := os.ReadFile(name)
		if err != nil {
			t.Fatal(err)
		}
		if laid, err := format.Source(source); err != nil || !bytes.Equal(laid, source) {
			t.Errorf("%s is not laid out as gofmt does it", name)
		}
		if bytes.Contains(source, []byte("//go:")) || bytes.Contains(source, []byte("// +build")) {
			t.Errorf("%s has a line for the compiler", name)
		}
		lookAtFile(t, name, source)
	}
}

func lookAtFile(t *testing.T, name string, source []byte) {
	set := token.NewFileSet()
	file, err := parser.ParseFile(set, name, source, 0)
	if err != nil {
		t.Fatal(err)
	}
	for _, i := range file.Imports {
		if path := strings.Trim(i.Path.Value, `"`); !strings.Contains(allowedImports, " "+path+" ") {
			t.Errorf("%s imports %s", name, path)
		}
	}
	for _, d := range file.Decls {
		if f, ok := d.(*ast.FuncDecl); ok {
			if lines := set.Position(f.End()).Line - set.Position(f.Pos()).Line + 1; lines > longestBody {
				t.Errorf("%s: %s has %d lines", name, f.Name.Name, lines)
			}
		}
	}
}
