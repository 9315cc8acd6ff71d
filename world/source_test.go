package world_test

import (
	"go/ast"
	"go/parser"
	"go/token"
	"path/filepath"
	"reflect"
	"slices"
	"strconv"
	"strings"
	"testing"

	"dapple/world"
)

// libraryPackages are those that LANGUAGE.md allows: no clock, no random source, no file, no network, no printing.
func libraryPackages() []string {
	return strings.Fields("bytes cmp container/heap errors iter maps math math/big math/bits slices sort strconv strings sync sync/atomic unicode unicode/utf8")
}

// layersBelow are those on which the map says that this one stands.
func layersBelow() []string {
	return strings.Fields("dapple/api dapple/words dapple/code dapple/cells dapple/alloc dapple/barrier dapple/shake dapple/mark dapple/sweep dapple/cycle dapple/vm dapple/locks")
}

// sources are the package's own files, without its tests.
func sources(t *testing.T) []*ast.File {
	t.Helper()
	names, err := filepath.Glob("*.go")
	if err != nil {
		t.Fatal(err)
	}
	var out []*ast.File
	for _, name := range names {
		if strings.HasSuffix(name, "_test.go") {
			continue
		}
		f, err := parser.ParseFile(token.NewFileSet(), name, nil, 0)
		if err != nil {
			t.Fatal(err)
		}
		out = append(out, f)
	}
	if len(out) == 0 {
		t.Fatal("no files")
	}
	return out
}

func TestStandsOnWhatTheMapSays(t *testing.T) {
	for _, f := range sources(t) {
		for _, i := range f.Imports {
			path, err := strconv.Unquote(i.Path.Value)
			if err != nil {
				t.Fatal(err)
			}
			if !slices.Contains(layersBelow(), path) && !slices.Contains(libraryPackages(), path) {
				t.Errorf("%s is imported", path)
			}
		}
	}
}

// TestNothingIsKept: at package level stands no variable, so that no world can know of another one; and no goroutine is begun.
func TestNothingIsKept(t *testing.T) {
	for _, f := range sources(t) {
		for _, d := range f.Decls {
			if g, ok := d.(*ast.GenDecl); ok && g.Tok == token.VAR {
				t.Errorf("%s stands at package level", g.Specs[0].(*ast.ValueSpec).Names[0].Name)
			}
		}
		ast.Inspect(f, func(n ast.Node) bool {
			if _, ok := n.(*ast.GoStmt); ok {
				t.Error("a goroutine is begun")
			}
			return true
		})
	}
}

// TestFace: a World has the methods that the chapter lists, and no others.
func TestFace(t *testing.T) {
	want := reflect.TypeFor[face]()
	got := reflect.TypeFor[*world.World]()
	for i := range got.NumMethod() {
		m := got.Method(i)
		if _, ok := want.MethodByName(m.Name); !ok {
			t.Errorf("%s is none of the chapter's", m.Name)
		}
	}
	if got.NumMethod() != want.NumMethod() {
		t.Error(got.NumMethod(), "methods")
	}
}

// TestTheWorldIsEmbedded: some struct embeds the world, and has methods of its own, by which it can be handed on as an interface.
func TestTheWorldIsEmbedded(t *testing.T) {
	embeds := map[string]int{}
	methods := map[string]int{}
	for _, f := range sources(t) {
		ast.Inspect(f, func(n ast.Node) bool {
			switch x := n.(type) {
			case *ast.TypeSpec:
				if s, ok := x.Type.(*ast.StructType); ok && slices.ContainsFunc(s.Fields.List, isEmbeddedWorld) {
					embeds[x.Name.Name]++
				}
			case *ast.FuncDecl:
				if x.Recv != nil && x.Name.IsExported() {
					methods[receiver(x)]++
				}
			}
			return true
		})
	}
	if len(embeds) == 0 {
		t.Fatal("nothing embeds the world")
	}
	for name := range embeds {
		if methods[name] == 0 {
			t.Errorf("%s has no methods of its own", name)
		}
	}
}

// isEmbeddedWorld tells whether a field is a World, or a pointer to one, without a name.
func isEmbeddedWorld(f *ast.Field) bool {
	x := f.Type
	if star, ok := x.(*ast.StarExpr); ok {
		x = star.X
	}
	name, ok := x.(*ast.Ident)
	return ok && len(f.Names) == 0 && name.Name == "World"
}

// receiver is the name of the type whose method a function is.
func receiver(f *ast.FuncDecl) string {
	x := f.Recv.List[0].Type
	if star, ok := x.(*ast.StarExpr); ok {
		x = star.X
	}
	name, _ := x.(*ast.Ident)
	return name.Name
}

// TestSmallFunctions: none has more than 60 lines.
func TestSmallFunctions(t *testing.T) {
	names, _ := filepath.Glob("*.go")
	for _, name := range names {
		if strings.HasSuffix(name, "_test.go") {
			continue
		}
		set := token.NewFileSet()
		f, err := parser.ParseFile(set, name, nil, 0)
		if err != nil {
			t.Fatal(err)
		}
		for _, d := range f.Decls {
			if fn, ok := d.(*ast.FuncDecl); ok && set.Position(fn.End()).Line-set.Position(fn.Pos()).Line > 60 {
				t.Errorf("%s is long", fn.Name.Name)
			}
		}
	}
}
