package sweep_test

import (
	"go/ast"
	"go/parser"
	"go/token"
	"path/filepath"
	"reflect"
	"slices"
	"strconv"
	"strings"
	"testing"

	"dapple/sweep"
)

// libraryPackages are those that LANGUAGE.md allows: no clock, no random source, no file, no network, no printing.
func libraryPackages() []string {
	return strings.Fields("bytes cmp container/heap errors iter maps math math/big math/bits slices sort strconv strings sync sync/atomic unicode unicode/utf8")
}

// layersBelow are those that the document's map lets this layer stand on.
func layersBelow() []string { return []string{"dapple/api", "dapple/cells"} }

// sources are the package's own files, without its tests.
func sources(t *testing.T) []*ast.File {
	t.Helper()
	names, err := filepath.Glob("*.go")
	if err != nil {
		t.Fatal(err)
	}
	var out []*ast.File
	for _, name := range names {
		if strings.HasSuffix(name, "_test.go") {
			continue
		}
		f, err := parser.ParseFile(token.NewFileSet(), name, nil, 0)
		if err != nil {
			t.Fatal(err)
		}
		out = append(out, f)
	}
	if len(out) == 0 {
		t.Fatal("no files")
	}
	return out
}

func TestStandsOnWhatTheMapSays(t *testing.T) {
	for _, f := range sources(t) {
		for _, i := range f.Imports {
			path, err := strconv.Unquote(i.Path.Value)
			if err != nil {
				t.Fatal(err)
			}
			if !slices.Contains(layersBelow(), path) && !slices.Contains(libraryPackages(), path) {
				t.Errorf("%s is imported", path)
			}
		}
	}
}

// TestNothingIsKept: at package level stands no variable, so that no Sweeper can know of another one; and no goroutine is begun.
func TestNothingIsKept(t *testing.T) {
	for _, f := range sources(t) {
		for _, d := range f.Decls {
			if g, ok := d.(*ast.GenDecl); ok && g.Tok == token.VAR {
				t.Errorf("%s stands at package level", g.Specs[0].(*ast.ValueSpec).Names[0].Name)
			}
		}
		ast.Inspect(f, func(n ast.Node) bool {
			if _, ok := n.(*ast.GoStmt); ok {
				t.Error("a goroutine is begun")
			}
			return true
		})
	}
}

// TestCountsAreEmbedded: how many are swept and freed is an embedded struct, and At and Freed are its calls, not the Sweeper's own.
func TestCountsAreEmbedded(t *testing.T) {
	of := reflect.TypeFor[sweep.Sweeper]()
	var embedded reflect.Type
	for i := range of.NumField() {
		if f := of.Field(i); f.Anonymous {
			embedded = f.Type
		}
	}
	if embedded == nil || embedded.Kind() != reflect.Struct {
		t.Fatal("no struct is embedded")
	}
	for _, f := range sources(t) {
		for _, d := range f.Decls {
			fn, ok := d.(*ast.FuncDecl)
			if !ok || fn.Name.Name != "At" && fn.Name.Name != "Freed" {
				continue
			}
			of := fn.Recv.List[0].Type
			if star, ok := of.(*ast.StarExpr); ok {
				of = star.X
			}
			if name, ok := of.(*ast.Ident); !ok || name.Name != embedded.Name() {
				t.Errorf("%s is not a call of %s", fn.Name.Name, embedded.Name())
			}
		}
	}
	for _, name := range []string{"At", "Freed"} {
		if _, ok := reflect.PointerTo(embedded).MethodByName(name); !ok {
			t.Errorf("%s has no %s", embedded.Name(), name)
		}
	}
}
