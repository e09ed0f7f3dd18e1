// Package layers has tests alone: of what holds for all layers, as their chapters and the document's map say it.
package layers

import (
	"go/ast"
	"go/parser"
	"go/token"
	"os"
	"path/filepath"
	"slices"
	"strconv"
	"strings"
	"testing"
)

// layer is a package that is built, with what it may import beside api: the layers that it calls, and what of the library its ways, or its work, ask for.
type layer struct {
	name    string
	imports []string
}

func built() []layer {
	return []layer{
		{"wide", nil},
		{"crc", []string{"sync"}},
		{"octet", []string{"strings"}},
		{"frame", []string{"strings", "horarium/crc"}},
		{"disk", nil},
		{"slots", []string{"math", "horarium/disk", "horarium/frame"}},
		{"wal", []string{"horarium/disk", "horarium/frame"}},
		{"journal", []string{"horarium/disk", "horarium/slots", "horarium/wal"}},
		{"param", []string{"slices", "horarium/wide"}},
		{"demand", []string{"horarium/param"}},
		{"busy", []string{"horarium/demand", "horarium/param"}},
		{"qpa", []string{"horarium/busy", "horarium/demand", "horarium/param"}},
		{"ops", []string{"horarium/octet", "horarium/param"}},
		{"table", []string{"slices", "sort", "horarium/octet", "horarium/ops", "horarium/param"}},
		{"judge", []string{"horarium/qpa", "horarium/table"}},
		{"heap", nil},
		{"guard", []string{"slices"}},
		{"edf", []string{"horarium/heap"}},
		{"server", []string{"slices"}},
		{"registry", []string{"slices", "horarium/disk", "horarium/journal", "horarium/judge", "horarium/ops", "horarium/table"}},
		{"counts", []string{"sync/atomic"}},
	}
}

// filesOf are the package's files, without its tests.
func filesOf(t *testing.T, name string) []*ast.File {
	t.Helper()
	folder := filepath.Join("..", name)
	names, err := os.ReadDir(folder)
	if err != nil {
		t.Fatal(err)
	}
	var l []*ast.File
	for _, x := range names {
		if !strings.HasSuffix(x.Name(), ".go") || strings.HasSuffix(x.Name(), "_test.go") {
			continue
		}
		file, err := parser.ParseFile(token.NewFileSet(), filepath.Join(folder, x.Name()), nil, 0)
		if err != nil {
			t.Fatal(err)
		}
		l = append(l, file)
	}
	if len(l) == 0 {
		t.Errorf("%s has no files", name)
	}
	return l
}

func TestEachLayerImportsWhatItMay(t *testing.T) {
	for _, x := range built() {
		for _, file := range filesOf(t, x.name) {
			for _, i := range file.Imports {
				path, err := strconv.Unquote(i.Path.Value)
				if err != nil || path != "horarium/api" && !slices.Contains(x.imports, path) {
					t.Errorf("%s imports %s", x.name, i.Path.Value)
				}
			}
		}
	}
}

// TestNoLayerHoldsState: what is kept from call to call lies in what the caller holds, so that no variable outlives a call.
func TestNoLayerHoldsState(t *testing.T) {
	for _, x := range built() {
		for _, file := range filesOf(t, x.name) {
			for _, d := range file.Decls {
				if g, ok := d.(*ast.GenDecl); ok && g.Tok == token.VAR {
					t.Errorf("%s has a variable at package level", x.name)
				}
			}
		}
	}
}
