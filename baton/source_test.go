package baton_test

import (
	"go/ast"
	"go/parser"
	"go/token"
	"path/filepath"
	"reflect"
	"slices"
	"strconv"
	"strings"
	"testing"

	"dapple/baton"
)

// libraryPackages are those that LANGUAGE.md allows; what goroutines hand on goes over a channel, so that sync/atomic is none of
// them here.
func libraryPackages() []string {
	return strings.Fields("bytes cmp container/heap errors iter maps math math/big math/bits slices sort strconv strings sync unicode unicode/utf8")
}

// layersBelow are those on which the map says that this one stands.
func layersBelow() []string { return strings.Fields("dapple/api dapple/world") }

// functions are those of the package's own files, without its tests; files are these.
func functions(t *testing.T) (out []*ast.FuncDecl, files []*ast.File, set *token.FileSet) {
	t.Helper()
	names, err := filepath.Glob("*.go")
	if err != nil {
		t.Fatal(err)
	}
	set = token.NewFileSet()
	for _, name := range names {
		if strings.HasSuffix(name, "_test.go") {
			continue
		}
		f, err := parser.ParseFile(set, name, nil, 0)
		if err != nil {
			t.Fatal(err)
		}
		files = append(files, f)
		for _, d := range f.Decls {
			if fn, ok := d.(*ast.FuncDecl); ok {
				out = append(out, fn)
			}
		}
	}
	if len(out) == 0 {
		t.Fatal("no functions")
	}
	return out, files, set
}

func TestStandsOnWhatTheMapSays(t *testing.T) {
	_, files, _ := functions(t)
	for _, f := range files {
		for _, i := range f.Imports {
			path, err := strconv.Unquote(i.Path.Value)
			if err != nil {
				t.Fatal(err)
			}
			if !slices.Contains(layersBelow(), path) && !slices.Contains(libraryPackages(), path) {
				t.Errorf("%s is imported", path)
			}
		}
	}
}

// TestNothingIsKept: at package level stands no variable, so that no baton can know of another one.
func TestNothingIsKept(t *testing.T) {
	_, files, _ := functions(t)
	for _, f := range files {
		for _, d := range f.Decls {
			if g, ok := d.(*ast.GenDecl); ok && g.Tok == token.VAR {
				t.Errorf("%s stands at package level", g.Specs[0].(*ast.ValueSpec).Names[0].Name)
			}
		}
	}
}

// TestSmallFunctions: none has more than 60 lines.
func TestSmallFunctions(t *testing.T) {
	l, _, set := functions(t)
	for _, fn := range l {
		if set.Position(fn.End()).Line-set.Position(fn.Pos()).Line > 60 {
			t.Errorf("%s is long", fn.Name.Name)
		}
	}
}

// TestFace: a Baton has the methods that the chapter lists, and no others; and no fields that others see.
func TestFace(t *testing.T) {
	want := reflect.TypeFor[interface {
		face
		Close() int
	}]()
	got := reflect.TypeFor[*baton.Baton]()
	if !got.Implements(want) {
		t.Error("a method is missing")
	}
	for i := range got.NumMethod() {
		if m := got.Method(i); !hasMethod(want, m.Name) {
			t.Errorf("%s is none of the chapter's", m.Name)
		}
	}
	for i := range got.Elem().NumField() {
		if f := got.Elem().Field(i); f.IsExported() {
			t.Errorf("%s can be seen", f.Name)
		}
	}
}

func hasMethod(t reflect.Type, name string) bool {
	_, ok := t.MethodByName(name)
	return ok
}

// TestOverChannelsAlone: goroutines share no lock; a world's steps are gone by nobody but actors, which range over what they are
// handed; nobody selects.
func TestOverChannelsAlone(t *testing.T) {
	l, _, _ := functions(t)
	ranges := 0
	for _, fn := range l {
		ast.Inspect(fn, func(n ast.Node) bool {
			switch x := n.(type) {
			case *ast.SelectStmt:
				t.Errorf("%s selects", fn.Name.Name)
			case *ast.SelectorExpr:
				name := x.Sel.Name
				if name == "Mutex" || name == "RWMutex" || name == "Once" {
					t.Errorf("%s has a %s", fn.Name.Name, name)
				}
				if inner, ok := x.X.(*ast.SelectorExpr); ok && inner.Sel.Name == "world" && (name == "Pick" || name == "Settle") && fn.Name.Name != "act" {
					t.Errorf("%s goes a step", fn.Name.Name)
				}
			case *ast.RangeStmt:
				if fn.Name.Name == "act" {
					ranges++
				}
			}
			return true
		})
	}
	if ranges != 1 {
		t.Error("an actor does not range over its channel")
	}
}
