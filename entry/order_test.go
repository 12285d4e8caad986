package entry_test

import (
	"go/ast"
	"go/parser"
	"go/token"
	"path/filepath"
	"slices"
	"strings"
	"testing"
)

// What a compiler does today tells nothing of the orders of evaluation that Go allows: here the code itself is looked at.

// sources are the package's files without its tests.
func sources(t *testing.T, fset *token.FileSet) []*ast.File {
	t.Helper()
	names, err := filepath.Glob("*.go")
	if err != nil {
		t.Fatal(err)
	}
	var l []*ast.File
	for _, n := range names {
		if strings.HasSuffix(n, "_test.go") {
			continue
		}
		f, err := parser.ParseFile(fset, n, nil, 0)
		if err != nil {
			t.Fatal(err)
		}
		l = append(l, f)
	}
	return l
}

// stateOf is the names of the fields of the structs that the package declares: those that its methods may change.
func stateOf(files []*ast.File) []string {
	var l []string
	for _, f := range files {
		ast.Inspect(f, func(n ast.Node) bool {
			if s, ok := n.(*ast.StructType); ok {
				for _, f := range s.Fields.List {
					for _, n := range f.Names {
						l = append(l, n.Name)
					}
				}
			}
			return true
		})
	}
	return l
}

// evaluated are the parts of a statement that are evaluated together; statements inside it are not among them.
func evaluated(n ast.Node) []ast.Expr {
	switch s := n.(type) {
	case *ast.AssignStmt:
		return slices.Concat(s.Lhs, s.Rhs)
	case *ast.ValueSpec:
		return s.Values
	case *ast.ExprStmt:
		return []ast.Expr{s.X}
	case *ast.ReturnStmt:
		return s.Results
	case *ast.CaseClause:
		return s.List
	case *ast.IfStmt:
		return []ast.Expr{s.Cond}
	case *ast.ForStmt:
		return []ast.Expr{s.Cond}
	case *ast.RangeStmt:
		return []ast.Expr{s.X}
	case *ast.SwitchStmt:
		return []ast.Expr{s.Tag}
	}
	return nil
}

// harmless are the calls that change nothing of the package's own.
var harmless = []string{"len", "min", "append", "byte", "int"}

// mixes tells whether a field of these is read beside a call that may change it.
func mixes(l []ast.Expr, state []string) bool {
	reads, calls := false, false
	for _, e := range l {
		if e == nil {
			continue
		}
		ast.Inspect(e, func(n ast.Node) bool {
			switch x := n.(type) {
			case *ast.SelectorExpr:
				// The state is that behind a receiver; e.Open, of an entry, only shares a name with a method.
				if on, ok := x.X.(*ast.Ident); ok && (on.Name == "r" || on.Name == "w") {
					reads = reads || slices.Contains(state, x.Sel.Name)
				}
			case *ast.CallExpr:
				on, ok := x.Fun.(*ast.Ident)
				_, conversion := x.Fun.(*ast.ArrayType)
				calls = calls || !conversion && !(ok && slices.Contains(harmless, on.Name))
			}
			return true
		})
	}
	return reads && calls
}

func TestNoStatementHangsOnAnOrderOfEvaluation(t *testing.T) {
	fset := token.NewFileSet()
	files := sources(t, fset)
	state := stateOf(files)
	if !slices.Contains(state, "rest") || !slices.Contains(state, "bad") {
		t.Fatalf("the state of reader and writer: %q", state)
	}
	for _, f := range files {
		ast.Inspect(f, func(n ast.Node) bool {
			if mixes(evaluated(n), state) {
				t.Errorf("%s: a field is read beside a call that may change it", fset.Position(n.Pos()))
			}
			return true
		})
	}
}

// TestTheLookSeesAMix holds the look itself against a statement that hangs on an order, and others that do not.
func TestTheLookSeesAMix(t *testing.T) {
	for text, asked := range map[string]bool{
		"n := min(r.number(1), len(r.rest))": true,
		"n := r.number(len(r.rest))":         true,
		"return r.rest, r.number(1)":         true,
		"if w.bad || w.need(x) {}":           true,
		"n := min(n, len(r.rest))":           false,
		"w.b = append(w.b, byte(n))":         false,
		"e.Open = readList(r, take)":         false,
		"return r.number(1), r.number(2)":    false,
	} {
		f, err := parser.ParseFile(token.NewFileSet(), "x.go", "package x\nfunc x() {\n"+text+"\n}", 0)
		if err != nil {
			t.Fatal(err)
		}
		mix := false
		ast.Inspect(f, func(n ast.Node) bool {
			mix = mix || mixes(evaluated(n), []string{"rest", "b", "bad"})
			return true
		})
		if mix != asked {
			t.Errorf("%s: %t", text, mix)
		}
	}
}
