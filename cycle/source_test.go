package cycle_test

import (
	"go/ast"
	"go/parser"
	"go/token"
	"go/types"
	"path/filepath"
	"slices"
	"strconv"
	"strings"
	"testing"
)

// libraryPackages are those that LANGUAGE.md allows: no clock, no random source, no file, no network, no printing.
func libraryPackages() []string {
	return strings.Fields("bytes cmp container/heap errors iter maps math math/big math/bits slices sort strconv strings sync sync/atomic unicode unicode/utf8")
}

// sources are the package's own files, without its tests.
func sources(t *testing.T) []*ast.File {
	t.Helper()
	names, err := filepath.Glob("*.go")
	if err != nil {
		t.Fatal(err)
	}
	var out []*ast.File
	for _, name := range names {
		if strings.HasSuffix(name, "_test.go") {
			continue
		}
		f, err := parser.ParseFile(token.NewFileSet(), name, nil, 0)
		if err != nil {
			t.Fatal(err)
		}
		out = append(out, f)
	}
	if len(out) == 0 {
		t.Fatal("no files")
	}
	return out
}

// TestStandsOnApiAlone: no layer's package is imported, so that no heap can be touched.
func TestStandsOnApiAlone(t *testing.T) {
	for _, f := range sources(t) {
		for _, i := range f.Imports {
			path, err := strconv.Unquote(i.Path.Value)
			if err != nil {
				t.Fatal(err)
			}
			if path != "dapple/api" && !slices.Contains(libraryPackages(), path) {
				t.Errorf("%s is imported", path)
			}
		}
	}
}

// TestNothingIsKept: at package level stands no variable, so that no call can know of another one; and no goroutine is begun.
func TestNothingIsKept(t *testing.T) {
	for _, f := range sources(t) {
		for _, d := range f.Decls {
			if g, ok := d.(*ast.GenDecl); ok && g.Tok == token.VAR {
				t.Errorf("%s stands at package level", g.Specs[0].(*ast.ValueSpec).Names[0].Name)
			}
		}
		ast.Inspect(f, func(n ast.Node) bool {
			if _, ok := n.(*ast.GoStmt); ok {
				t.Error("a goroutine is begun")
			}
			return true
		})
	}
}

// caseOf is the first thing that a case names; of a default it is none.
func caseOf(s ast.Stmt) string {
	c := s.(*ast.CaseClause)
	if len(c.List) == 0 {
		return ""
	}
	return types.ExprString(c.List[0])
}

// fallsThrough tells whether a case's last statement is a fallthrough.
func fallsThrough(s ast.Stmt) bool {
	body := s.(*ast.CaseClause).Body
	if len(body) == 0 {
		return false
	}
	b, ok := body[len(body)-1].(*ast.BranchStmt)
	return ok && b.Tok == token.FALLTHROUGH
}

// TestRootsFallThroughToMark: what is next is told in Next by a switch over the Phase, whose case of the roots, and no other one, falls through to the one of marking.
func TestRootsFallThroughToMark(t *testing.T) {
	falls := 0
	for _, f := range sources(t) {
		for _, d := range f.Decls {
			fn, ok := d.(*ast.FuncDecl)
			if !ok {
				continue
			}
			ast.Inspect(fn, func(n ast.Node) bool {
				sw, ok := n.(*ast.SwitchStmt)
				if !ok {
					return true
				}
				cases := sw.Body.List
				for i, c := range cases {
					if !fallsThrough(c) {
						continue
					}
					falls++
					if fn.Name.Name != "Next" || sw.Tag == nil || types.ExprString(sw.Tag) != "s.Phase" {
						t.Error("a fallthrough outside the switch over the phase")
					}
					if caseOf(c) != "api.PhaseRoots" || caseOf(cases[i+1]) != "api.PhaseMark" {
						t.Errorf("%s falls through to %s", caseOf(c), caseOf(cases[i+1]))
					}
				}
				return true
			})
		}
	}
	if falls != 1 {
		t.Errorf("%d cases fall through", falls)
	}
}
