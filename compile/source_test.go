package compile_test

import (
	"go/ast"
	"go/parser"
	"go/token"
	"path/filepath"
	"slices"
	"strconv"
	"strings"
	"testing"
)

// libraryPackages are those that LANGUAGE.md allows: no clock, no random source, no file, no network, no printing.
func libraryPackages() []string {
	return strings.Fields("bytes cmp container/heap errors iter maps math math/big math/bits slices sort strconv strings sync sync/atomic unicode unicode/utf8")
}

// sources are the package's own files, without its tests.
func sources(t *testing.T) []*ast.File {
	t.Helper()
	names, err := filepath.Glob("*.go")
	if err != nil {
		t.Fatal(err)
	}
	var out []*ast.File
	for _, name := range names {
		if strings.HasSuffix(name, "_test.go") {
			continue
		}
		f, err := parser.ParseFile(token.NewFileSet(), name, nil, 0)
		if err != nil {
			t.Fatal(err)
		}
		out = append(out, f)
	}
	if len(out) == 0 {
		t.Fatal("no files")
	}
	return out
}

// layersBelow are those that the document's map lets this layer stand on.
func layersBelow() []string {
	return []string{"dapple/api", "dapple/words", "dapple/names", "dapple/forms", "dapple/code"}
}

func TestStandsOnWhatTheMapSays(t *testing.T) {
	for _, f := range sources(t) {
		for _, i := range f.Imports {
			path, err := strconv.Unquote(i.Path.Value)
			if err != nil {
				t.Fatal(err)
			}
			if !slices.Contains(layersBelow(), path) && !slices.Contains(libraryPackages(), path) {
				t.Errorf("%s is imported", path)
			}
		}
	}
}

// TestNothingIsKept: at package level stands no variable, so that no call can tell what others were asked.
func TestNothingIsKept(t *testing.T) {
	for _, f := range sources(t) {
		for _, d := range f.Decls {
			if g, ok := d.(*ast.GenDecl); ok && g.Tok == token.VAR {
				t.Errorf("%s stands at package level", g.Specs[0].(*ast.ValueSpec).Names[0].Name)
			}
		}
	}
}

// isMethodExpression tells whether an expression is one: (*T).method.
func isMethodExpression(e ast.Expr) bool {
	s, ok := e.(*ast.SelectorExpr)
	if !ok {
		return false
	}
	p, ok := s.X.(*ast.ParenExpr)
	if !ok {
		return false
	}
	_, ok = p.X.(*ast.StarExpr)
	return ok
}

// TestTableOfMethodExpressions: what each kind of form makes stands in one, by kinds.
func TestTableOfMethodExpressions(t *testing.T) {
	var kinds []string
	for _, f := range sources(t) {
		ast.Inspect(f, func(n ast.Node) bool {
			literal, ok := n.(*ast.CompositeLit)
			if !ok {
				return true
			}
			for _, e := range literal.Elts {
				if pair, ok := e.(*ast.KeyValueExpr); ok && isMethodExpression(pair.Value) {
					if key, ok := pair.Key.(*ast.SelectorExpr); ok {
						kinds = append(kinds, key.Sel.Name)
					}
				}
			}
			return true
		})
	}
	slices.Sort(kinds)
	want := strings.Fields("FormBegin FormCall FormDefine FormIf FormJoin FormLambda FormLet FormLock FormName FormQuote FormSet FormSpawn FormUnlock FormWhile FormYield")
	if !slices.Equal(kinds, want) {
		t.Errorf("%q, not %q", kinds, want)
	}
}

// TestNamesEmbedThoseAround: what has names embeds what has the names around it.
func TestNamesEmbedThoseAround(t *testing.T) {
	embeds := false
	for _, f := range sources(t) {
		ast.Inspect(f, func(n ast.Node) bool {
			spec, ok := n.(*ast.TypeSpec)
			if !ok {
				return true
			}
			s, ok := spec.Type.(*ast.StructType)
			if !ok {
				return true
			}
			for _, field := range s.Fields.List {
				star, isPointer := field.Type.(*ast.StarExpr)
				if !isPointer || len(field.Names) > 0 {
					continue
				}
				id, isName := star.X.(*ast.Ident)
				embeds = embeds || isName && id.Name == spec.Name.Name
			}
			return true
		})
	}
	if !embeds {
		t.Error("no names embed those around them")
	}
}

// TestFormsAreHandedInOneByOne: the face is variadic.
func TestFormsAreHandedInOneByOne(t *testing.T) {
	for _, f := range sources(t) {
		for _, d := range f.Decls {
			fn, ok := d.(*ast.FuncDecl)
			if !ok || fn.Recv != nil || !fn.Name.IsExported() {
				continue
			}
			params := fn.Type.Params.List
			if _, ok := params[len(params)-1].Type.(*ast.Ellipsis); fn.Name.Name != "Compile" || !ok {
				t.Errorf("%s is exported, or not variadic", fn.Name.Name)
			}
		}
	}
}
