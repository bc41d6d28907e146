// Package rules holds the program's text against the rules of its language (LANGUAGE.md) and against its map of layers.
package rules

import (
	"bytes"
	"go/ast"
	"go/format"
	"go/parser"
	"go/token"
	"os"
	"path/filepath"
	"slices"
	"strconv"
	"strings"
	"testing"
)

const (
	module       = "palaver"
	longFunction = 60
)

// layers are in the order of the map: each may call those ahead of it.
var layers = []string{
	"api", "octets", "sha", "wots", "merkle", "key", "event", "frame", "crc", "disk", "log", "store", "dag", "wait",
	"bloom", "member", "room", "view", "recon", "queue", "node", "net", "world", "tale",
}

var library = []string{
	"bytes", "cmp", "container/heap", "errors", "iter", "maps", "math", "math/bits", "slices", "sort", "strconv",
	"strings", "sync", "sync/atomic", "unicode", "unicode/utf8",
}

var syncNames = []string{"Mutex", "RWMutex", "WaitGroup", "Once"}

type source struct {
	layer, path string
	text        []byte
	set         *token.FileSet
	file        *ast.File
}

func (s source) at(n ast.Node) string {
	return s.set.Position(n.Pos()).String()
}

func (s source) lines(n ast.Node) int {
	return s.set.Position(n.End()).Line - s.set.Position(n.Pos()).Line + 1
}

// sources is the program's text without its tests.
func sources(t *testing.T) []source {
	t.Helper()
	var out []source
	for _, layer := range layers {
		entries, err := os.ReadDir(filepath.Join("..", layer))
		if err != nil {
			t.Fatal(err)
		}
		for _, e := range entries {
			if strings.HasSuffix(e.Name(), "_test.go") || e.Name() == "testdata" {
				continue
			}
			if e.IsDir() || !strings.HasSuffix(e.Name(), ".go") {
				t.Errorf("%s/%s: beside the Go files nothing may stand there", layer, e.Name())
				continue
			}
			out = append(out, parse(t, layer, filepath.Join("..", layer, e.Name())))
		}
	}
	return out
}

func parse(t *testing.T, layer, path string) source {
	t.Helper()
	text, err := os.ReadFile(path)
	if err != nil {
		t.Fatal(err)
	}
	set := token.NewFileSet()
	file, err := parser.ParseFile(set, path, text, parser.ParseComments)
	if err != nil {
		t.Fatal(err)
	}
	return source{layer, path, text, set, file}
}

func mayImport(layer, path string) bool {
	below, own := strings.CutPrefix(path, module+"/")
	if !own {
		return slices.Contains(library, path)
	}
	place := slices.Index(layers, below)
	return place >= 0 && place < slices.Index(layers, layer)
}

func TestImports(t *testing.T) {
	for _, s := range sources(t) {
		for _, i := range s.file.Imports {
			path, _ := strconv.Unquote(i.Path.Value)
			if !mayImport(s.layer, path) {
				t.Errorf("%s: %s may not be imported", s.at(i), path)
			}
		}
	}
}

func TestLibraryNames(t *testing.T) {
	for _, s := range sources(t) {
		ast.Inspect(s.file, func(n ast.Node) bool {
			x, ok := n.(*ast.SelectorExpr)
			if !ok {
				return true
			}
			from, _ := x.X.(*ast.Ident)
			if from == nil {
				return true
			}
			if from.Name == "sync" && !slices.Contains(syncNames, x.Sel.Name) || from.Name == "iter" && strings.HasPrefix(x.Sel.Name, "Pull") {
				t.Errorf("%s: %s.%s is outside the language", s.at(x), from.Name, x.Sel.Name)
			}
			return true
		})
	}
}

func TestNoPrinting(t *testing.T) {
	for _, s := range sources(t) {
		ast.Inspect(s.file, func(n ast.Node) bool {
			if call, ok := n.(*ast.CallExpr); ok {
				if f, ok := call.Fun.(*ast.Ident); ok && (f.Name == "print" || f.Name == "println") {
					t.Errorf("%s: %s", s.at(call), f.Name)
				}
			}
			return true
		})
	}
}

func TestNoLinesForTheTools(t *testing.T) {
	for _, s := range sources(t) {
		for _, group := range s.file.Comments {
			for _, c := range group.List {
				if strings.HasPrefix(c.Text, "//go:") || strings.HasPrefix(c.Text, "// +build") {
					t.Errorf("%s: %s", s.at(c), c.Text)
				}
			}
		}
	}
}

func TestLayout(t *testing.T) {
	for _, s := range sources(t) {
		if laid, err := format.Source(s.text); err != nil || !bytes.Equal(laid, s.text) {
			t.Errorf("%s: not as gofmt lays it", s.path)
		}
	}
}

func TestFunctionsAreShort(t *testing.T) {
	for _, s := range sources(t) {
		for _, d := range s.file.Decls {
			if f, ok := d.(*ast.FuncDecl); ok && s.lines(f) > longFunction {
				t.Errorf("%s: %s has %d lines", s.at(f), f.Name.Name, s.lines(f))
			}
		}
	}
}

// writtenOut tells whether a package-level value is a table or an error made by errors.New.
func writtenOut(e ast.Expr) bool {
	switch x := e.(type) {
	case *ast.CompositeLit:
		_, isMap := x.Type.(*ast.MapType)
		return !isMap
	case *ast.CallExpr:
		f, _ := x.Fun.(*ast.SelectorExpr)
		if f == nil {
			return false
		}
		from, _ := f.X.(*ast.Ident)
		return from != nil && from.Name == "errors" && f.Sel.Name == "New"
	case *ast.BasicLit:
		return x.Kind == token.INT
	}
	return false
}

func TestPackageVariables(t *testing.T) {
	for _, s := range sources(t) {
		for _, d := range s.file.Decls {
			group, ok := d.(*ast.GenDecl)
			if !ok || group.Tok != token.VAR {
				continue
			}
			for _, spec := range group.Specs {
				v := spec.(*ast.ValueSpec)
				loose := func(e ast.Expr) bool { return !writtenOut(e) }
				if len(v.Values) != len(v.Names) || slices.ContainsFunc(v.Values, loose) {
					t.Errorf("%s: %s isn't written out", s.at(v), v.Names[0].Name)
				}
			}
		}
	}
}
