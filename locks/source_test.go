package locks_test

import (
	"go/ast"
	"go/parser"
	"go/token"
	"path/filepath"
	"reflect"
	"slices"
	"strconv"
	"strings"
	"testing"

	"dapple/locks"
)

// libraryPackages are those that LANGUAGE.md allows: no clock, no random source, no file, no network, no printing.
func libraryPackages() []string {
	return strings.Fields("bytes cmp container/heap errors iter maps math math/big math/bits slices sort strconv strings sync sync/atomic unicode unicode/utf8")
}

// layersBelow are those that the document's map lets this layer stand on.
func layersBelow() []string { return []string{"dapple/api", "dapple/words"} }

// sources are the package's own files, without its tests.
func sources(t *testing.T) []*ast.File {
	t.Helper()
	names, err := filepath.Glob("*.go")
	if err != nil {
		t.Fatal(err)
	}
	var out []*ast.File
	for _, name := range names {
		if strings.HasSuffix(name, "_test.go") {
			continue
		}
		f, err := parser.ParseFile(token.NewFileSet(), name, nil, 0)
		if err != nil {
			t.Fatal(err)
		}
		out = append(out, f)
	}
	if len(out) == 0 {
		t.Fatal("no files")
	}
	return out
}

func TestStandsOnWhatTheMapSays(t *testing.T) {
	for _, f := range sources(t) {
		for _, i := range f.Imports {
			path, err := strconv.Unquote(i.Path.Value)
			if err != nil {
				t.Fatal(err)
			}
			if !slices.Contains(layersBelow(), path) && !slices.Contains(libraryPackages(), path) {
				t.Errorf("%s is imported", path)
			}
		}
	}
}

// TestNothingIsKept: at package level stands no variable, so that no Book can know of another one; and no goroutine is begun.
func TestNothingIsKept(t *testing.T) {
	for _, f := range sources(t) {
		for _, d := range f.Decls {
			if g, ok := d.(*ast.GenDecl); ok && g.Tok == token.VAR {
				t.Errorf("%s stands at package level", g.Specs[0].(*ast.ValueSpec).Names[0].Name)
			}
		}
		ast.Inspect(f, func(n ast.Node) bool {
			if _, ok := n.(*ast.GoStmt); ok {
				t.Error("a goroutine is begun")
			}
			return true
		})
	}
}

// embeddedIn is the struct that a list's elements embed; nil, if there is none.
func embeddedIn(list reflect.Type) reflect.Type {
	for i := range list.Elem().NumField() {
		if f := list.Elem().Field(i); f.Anonymous && f.Type.Kind() == reflect.Struct {
			return f.Type
		}
	}
	return nil
}

// TestRowsAreEmbedded: locks and threads embed one struct, who waits in a row.
func TestRowsAreEmbedded(t *testing.T) {
	of := reflect.TypeFor[locks.Book]()
	var embedded []reflect.Type
	for i := range of.NumField() {
		list := of.Field(i).Type
		if list.Kind() != reflect.Slice || list.Elem().Kind() != reflect.Struct {
			continue
		}
		if e := embeddedIn(list); e != nil {
			embedded = append(embedded, e)
		}
	}
	if len(embedded) != 2 || embedded[0] != embedded[1] {
		t.Fatalf("%v are embedded", embedded)
	}
	if row := embedded[0].Field(0); row.Type.Kind() != reflect.Slice {
		t.Errorf("%s of %s is no row", row.Name, embedded[0].Name())
	}
}

// TestARowIsCutWithAThirdIndex: no slice is cut at its front otherwise.
func TestARowIsCutWithAThirdIndex(t *testing.T) {
	cuts := 0
	for _, f := range sources(t) {
		ast.Inspect(f, func(n ast.Node) bool {
			if s, ok := n.(*ast.SliceExpr); ok {
				cuts++
				if !s.Slice3 {
					t.Error("a slice is cut without a third index")
				}
			}
			return true
		})
	}
	if cuts == 0 {
		t.Error("no row is cut")
	}
}
