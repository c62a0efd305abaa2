package layers

import (
	"bytes"
	"go/ast"
	"go/format"
	"go/parser"
	"go/token"
	"os"
	"path/filepath"
	"slices"
	"strconv"
	"strings"
	"testing"
)

// layerNames are the packages, each behind those that it may call.
var layerNames = []string{
	"api", "value", "table", "crc", "wire", "schema", "streams", "runs", "leaf", "trigram", "hints", "lex", "parse",
	"print", "check", "pred", "rowops", "join", "group", "eval", "acl", "plan", "node", "gateway", "desk",
}

// libraryNames are the packages of the library that the program's language has.
var libraryNames = []string{
	"bytes", "cmp", "container/heap", "errors", "iter", "maps", "math", "math/bits", "slices", "sort", "strconv", "strings",
	"sync", "sync/atomic", "unicode", "unicode/utf8",
}

const mostLines = 60

// mayImport tells whether the package called name may import path.
func mayImport(name, path string) bool {
	if slices.Contains(libraryNames, path) {
		return true
	}
	below, own := strings.CutPrefix(path, "catchment/")
	at := slices.Index(layerNames, below)
	return own && at >= 0 && at < slices.Index(layerNames, name)
}

func TestMayImport(t *testing.T) {
	for _, x := range []struct {
		name, path string
		want       bool
	}{
		{"value", "catchment/api", true}, {"value", "strconv", true}, {"table", "catchment/value", true},
		{"value", "catchment/value", false}, {"value", "catchment/table", false}, {"api", "catchment/value", false},
		{"value", "fmt", false}, {"value", "unsafe", false}, {"desk", "catchment/layers", false}, {"desk", "value", false},
	} {
		if mayImport(x.name, x.path) != x.want {
			t.Errorf("%s imports %s: want %v", x.name, x.path, x.want)
		}
	}
}

func TestImportsAndLayout(t *testing.T) {
	for _, name := range layerNames {
		files, err := os.ReadDir(filepath.Join("..", name))
		if err != nil {
			t.Fatal(err)
		}
		for _, f := range files {
			path := filepath.Join("..", name, f.Name())
			if !strings.HasSuffix(path, ".go") {
				t.Errorf("%s: no Go file", path)
			} else if !strings.HasSuffix(path, "_test.go") {
				checkFile(t, name, path)
			}
		}
	}
}

func checkFile(t *testing.T, name, path string) {
	text, err := os.ReadFile(path)
	if err != nil {
		t.Fatal(err)
	}
	if laid, err := format.Source(text); err != nil || !bytes.Equal(laid, text) {
		t.Errorf("%s: not in gofmt's layout", path)
	}
	places := token.NewFileSet()
	file, err := parser.ParseFile(places, path, text, parser.ParseComments)
	if err != nil {
		t.Fatal(err)
	}
	for _, i := range file.Imports {
		if p, err := strconv.Unquote(i.Path.Value); err != nil || !mayImport(name, p) {
			t.Errorf("%s imports %s", path, i.Path.Value)
		}
	}
	for _, d := range file.Decls {
		f, ok := d.(*ast.FuncDecl)
		if ok && places.Position(f.End()).Line-places.Position(f.Pos()).Line >= mostLines {
			t.Errorf("%s: the function %s is over %d lines", path, f.Name.Name, mostLines)
		}
	}
	for _, c := range file.Comments {
		for _, line := range c.List {
			if strings.HasPrefix(line.Text, "//go:") || strings.HasPrefix(line.Text, "// +build") {
				t.Errorf("%s: %s", path, line.Text)
			}
		}
	}
}
