package model_test

import (
	"go/ast"
	"go/parser"
	"go/token"
	"path/filepath"
	"reflect"
	"slices"
	"strconv"
	"strings"
	"testing"

	"dapple/locks"
	"dapple/model"
)

// libraryPackages are those that LANGUAGE.md allows: no clock, no random source, no file, no network, no printing.
func libraryPackages() []string {
	return strings.Fields("bytes cmp container/heap errors iter maps math math/big math/bits slices sort strconv strings sync sync/atomic unicode unicode/utf8")
}

// layersBelow are those on which the map says that this one stands.
func layersBelow() []string {
	return strings.Fields("dapple/api dapple/words dapple/code dapple/vm dapple/locks dapple/show")
}

// sources are the package's own files, without its tests.
func sources(t *testing.T) ([]*ast.File, *token.FileSet) {
	t.Helper()
	names, err := filepath.Glob("*.go")
	if err != nil {
		t.Fatal(err)
	}
	set := token.NewFileSet()
	var out []*ast.File
	for _, name := range names {
		if strings.HasSuffix(name, "_test.go") {
			continue
		}
		f, err := parser.ParseFile(set, name, nil, 0)
		if err != nil {
			t.Fatal(err)
		}
		out = append(out, f)
	}
	if len(out) == 0 {
		t.Fatal("no files")
	}
	return out, set
}

func TestStandsOnWhatTheMapSays(t *testing.T) {
	files, _ := sources(t)
	for _, f := range files {
		for _, i := range f.Imports {
			path, err := strconv.Unquote(i.Path.Value)
			if err != nil {
				t.Fatal(err)
			}
			if !slices.Contains(layersBelow(), path) && !slices.Contains(libraryPackages(), path) {
				t.Errorf("%s is imported", path)
			}
		}
	}
}

// TestNothingIsKept: at package level stands no variable, so that no model can know of another one; and no goroutine is begun.
func TestNothingIsKept(t *testing.T) {
	files, _ := sources(t)
	for _, f := range files {
		ast.Inspect(f, func(n ast.Node) bool {
			if _, ok := n.(*ast.GoStmt); ok {
				t.Error("a goroutine is begun")
			}
			return true
		})
		for _, d := range f.Decls {
			if g, ok := d.(*ast.GenDecl); ok && g.Tok == token.VAR {
				t.Errorf("%s stands at package level", g.Specs[0].(*ast.ValueSpec).Names[0].Name)
			}
		}
	}
}

// TestSmallFunctions: none has more than 60 lines.
func TestSmallFunctions(t *testing.T) {
	files, set := sources(t)
	for _, f := range files {
		for _, d := range f.Decls {
			if fn, ok := d.(*ast.FuncDecl); ok && set.Position(fn.End()).Line-set.Position(fn.Pos()).Line > 60 {
				t.Errorf("%s is long", fn.Name.Name)
			}
		}
	}
}

// TestFace: a Model has the methods that the chapter lists, and those of the book that it embeds, and no others.
func TestFace(t *testing.T) {
	want, book := reflect.TypeFor[face](), reflect.TypeFor[*locks.Book]()
	got := reflect.TypeFor[*model.Model]()
	if !got.Implements(want) {
		t.Error("a method is missing")
	}
	for i := range got.NumMethod() {
		if name := got.Method(i).Name; !hasMethod(want, name) && !hasMethod(book, name) {
			t.Errorf("%s is none of the chapter's", name)
		}
	}
	f, ok := got.Elem().FieldByName("Book")
	if !ok || !f.Anonymous || f.Type != book {
		t.Error("the book is not embedded")
	}
	for i := range got.Elem().NumField() {
		if f := got.Elem().Field(i); f.IsExported() && !f.Anonymous {
			t.Errorf("%s can be seen", f.Name)
		}
	}
}

func hasMethod(t reflect.Type, name string) bool {
	_, ok := t.MethodByName(name)
	return ok
}

// TestOwnMethods: those that are the model's own, and that others can call, are just the chapter's.
func TestOwnMethods(t *testing.T) {
	files, _ := sources(t)
	want, got := reflect.TypeFor[face](), 0
	for _, f := range files {
		for _, d := range f.Decls {
			fn, ok := d.(*ast.FuncDecl)
			if !ok || fn.Recv == nil || !fn.Name.IsExported() || receiver(fn) != "Model" {
				continue
			}
			got++
			if !hasMethod(want, fn.Name.Name) {
				t.Errorf("%s is none of the chapter's", fn.Name.Name)
			}
		}
	}
	if got != want.NumMethod() {
		t.Error(got, "methods")
	}
}

// receiver is the name of the type whose method a function is.
func receiver(f *ast.FuncDecl) string {
	x := f.Recv.List[0].Type
	if star, ok := x.(*ast.StarExpr); ok {
		x = star.X
	}
	name, _ := x.(*ast.Ident)
	return name.Name
}
