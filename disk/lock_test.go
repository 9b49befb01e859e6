package disk_test

import (
	"go/ast"
	"go/parser"
	"go/token"
	"go/types"
	"os"
	"strings"
	"testing"
)

// Hands that run at the same time may never meet on a slow day, so the code itself is asked: every call takes the disk's lock first, and gives it back by defer.
func TestP9_10EveryCallTakesTheLock(t *testing.T) {
	calls := 0
	for _, f := range sources(t) {
		for _, x := range f.Decls {
			call, ok := x.(*ast.FuncDecl)
			if !ok || call.Recv == nil || !call.Name.IsExported() {
				continue
			}
			calls++
			d := call.Recv.List[0].Names[0].Name
			if got := firstTwo(call); got != d+".lock.Lock(); defer "+d+".lock.Unlock()" {
				t.Errorf("%s begins with %q", call.Name.Name, got)
			}
		}
	}
	if calls != 6 {
		t.Errorf("there are %d calls of a disk", calls)
	}
}

// sources are the package's files but for the tests.
func sources(t *testing.T) []*ast.File {
	t.Helper()
	entries, err := os.ReadDir(".")
	if err != nil {
		t.Fatal(err)
	}
	var files []*ast.File
	for _, e := range entries {
		if !strings.HasSuffix(e.Name(), ".go") || strings.HasSuffix(e.Name(), "_test.go") {
			continue
		}
		f, err := parser.ParseFile(token.NewFileSet(), e.Name(), nil, 0)
		if err != nil {
			t.Fatal(err)
		}
		files = append(files, f)
	}
	return files
}

// firstTwo is the text of a call's first two statements, as far as they are calls.
func firstTwo(call *ast.FuncDecl) string {
	var out []string
	for _, s := range call.Body.List[:min(2, len(call.Body.List))] {
		switch x := s.(type) {
		case *ast.ExprStmt:
			out = append(out, types.ExprString(x.X))
		case *ast.DeferStmt:
			out = append(out, "defer "+types.ExprString(x.Call))
		}
	}
	return strings.Join(out, "; ")
}
