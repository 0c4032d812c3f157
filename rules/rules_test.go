// Package rules holds tests of the program's text: what its packages import, and which of the language's ways each layer leans on.
package rules

import (
	"go/ast"
	"go/importer"
	"go/parser"
	"go/token"
	"go/types"
	"path/filepath"
	"slices"
	"strconv"
	"strings"
	"testing"
)

const module = "downpour/"

// A layer may call those packages of the program alone, and must have those ways.
type layer struct {
	name  string
	calls string
	ways  string
}

// The layers that are built, from the document's map and its section 'Ways'.
var layers = []layer{
	{"bitrow", "api", "range-function closure"},
	{"block", "api bitrow", "variadic copy"},
	{"matrix", "api bitrow block", "method-expression method-value"},
	{"reduce", "api bitrow matrix", "range-function method-value"},
	{"backsub", "api bitrow block matrix reduce", "embedding promoted"},
	{"random", "api", "range-function range-integer"},
	{"degree", "api", "closure range-function"},
	{"neighbours", "api bitrow degree random", "method-value"},
	{"encode", "api block neighbours", "range-function"},
	{"crc", "api", "array"},
	{"datagram", "api crc", "method-value"},
	{"equations", "api neighbours reduce", "closure variadic three-index"},
	{"shard", "api", "method-expression map"},
	{"ripple", "api", "interface interface-call assertion"},
	{"peel", "api bitrow block equations", "range-function method-value"},
	{"inactive", "api bitrow matrix", "method-expression iota label"},
	{"solve", "api backsub bitrow block equations inactive matrix peel", "closure function-field"},
	{"object", "api equations solve", "method-expression array"},
	{"receiver", "api datagram equations object", "generic-function"},
	{"sched", "api", "array function-field"},
	{"machine", "api receiver", "method-expression array embedding promoted"},
	{"history", "api", "range-function struct-compared"},
	{"linear", "api history receiver", "closure"},
	{"flow", "api datagram encode receiver", "method-value array"},
}

const library = " bytes cmp container/heap errors iter maps math math/bits slices sort strconv strings sync sync/atomic unicode unicode/utf8 "

type reader struct {
	set   *token.FileSet
	std   types.Importer
	info  *types.Info
	packs map[string]*types.Package
	files map[string][]*ast.File
}

func newReader() *reader {
	set := token.NewFileSet()
	return &reader{
		set: set,
		std: importer.ForCompiler(set, "source", nil),
		info: &types.Info{
			Types:      map[ast.Expr]types.TypeAndValue{},
			Uses:       map[*ast.Ident]types.Object{},
			Selections: map[*ast.SelectorExpr]*types.Selection{},
		},
		packs: map[string]*types.Package{},
		files: map[string][]*ast.File{},
	}
}

func (r *reader) Import(path string) (*types.Package, error) {
	if !strings.HasPrefix(path, module) {
		return r.std.Import(path)
	}
	if p := r.packs[path]; p != nil {
		return p, nil
	}
	found, err := filepath.Glob(filepath.Join("..", strings.TrimPrefix(path, module), "*.go"))
	if err != nil {
		return nil, err
	}
	for _, f := range found {
		if strings.HasSuffix(f, "_test.go") {
			continue
		}
		a, err := parser.ParseFile(r.set, f, nil, 0)
		if err != nil {
			return nil, err
		}
		r.files[path] = append(r.files[path], a)
	}
	c := types.Config{Importer: r}
	p, err := c.Check(path, r.set, r.files[path], r.info)
	r.packs[path] = p
	return p, err
}

func (r *reader) imports(path string) []string {
	var l []string
	for _, f := range r.files[path] {
		for _, i := range f.Imports {
			p, _ := strconv.Unquote(i.Path.Value)
			l = append(l, p)
		}
	}
	return l
}

// below are the package and those of the program that it imports, and these import, and so on.
func (r *reader) below(path string) []string {
	l := []string{path}
	for i := 0; i < len(l); i++ {
		for _, p := range r.imports(l[i]) {
			if strings.HasPrefix(p, module) && !slices.Contains(l, p) {
				l = append(l, p)
			}
		}
	}
	return l
}

func isLayer(name string) bool {
	return slices.ContainsFunc(layers, func(l layer) bool { return l.name == name })
}

func TestImports(t *testing.T) {
	r := newReader()
	for _, l := range layers {
		if _, err := r.Import(module + l.name); err != nil {
			t.Fatal(err)
		}
		for _, p := range r.below(module + l.name) {
			checkLibrary(t, r, p)
		}
		for _, p := range r.imports(module + l.name) {
			name, own := strings.CutPrefix(p, module)
			if own && isLayer(name) && !slices.Contains(strings.Fields(l.calls), name) {
				t.Errorf("%s calls %s, which its layer does not stand on", l.name, name)
			}
		}
	}
}

func checkLibrary(t *testing.T, r *reader, path string) {
	t.Helper()
	for _, p := range r.imports(path) {
		if !strings.HasPrefix(p, module) && !strings.Contains(library, " "+p+" ") {
			t.Errorf("%s imports %s, which is none of the language's packages", path, p)
		}
	}
}

func TestWays(t *testing.T) {
	r := newReader()
	for _, l := range layers {
		if _, err := r.Import(module + l.name); err != nil {
			t.Fatal(err)
		}
		got := map[string]bool{}
		for _, p := range r.below(module + l.name) {
			for _, f := range r.files[p] {
				r.look(f, got)
			}
		}
		for _, w := range strings.Fields(l.ways) {
			if !got[w] {
				t.Errorf("%s has no %s", l.name, w)
			}
		}
	}
}

func (r *reader) under(e ast.Expr) types.Type {
	if t := r.info.TypeOf(e); t != nil {
		return t.Underlying()
	}
	return nil
}

func (r *reader) look(f *ast.File, got map[string]bool) {
	called := map[ast.Expr]bool{}
	ast.Inspect(f, func(n ast.Node) bool {
		if c, ok := n.(*ast.CallExpr); ok {
			called[ast.Unparen(c.Fun)] = true
			r.lookCall(c, got)
		}
		if s, ok := n.(*ast.SelectorExpr); ok {
			r.lookSelector(s, called[s], got)
		}
		r.lookType(n, got)
		r.lookOther(n, got)
		return true
	})
}

func (r *reader) lookCall(c *ast.CallExpr, got map[string]bool) {
	if f, ok := ast.Unparen(c.Fun).(*ast.Ident); ok {
		if b, ok := r.info.Uses[f].(*types.Builtin); ok {
			got[b.Name()] = true
		}
	}
	if slices.Contains([]string{"slices.Clone", "maps.Clone", "maps.Copy", "bytes.Clone"}, types.ExprString(c.Fun)) {
		got["copy"] = true
	}
}

func (r *reader) lookSelector(x *ast.SelectorExpr, called bool, got map[string]bool) {
	s := r.info.Selections[x]
	if s == nil {
		return
	}
	if len(s.Index()) > 1 {
		got["promoted"] = true
	}
	if s.Kind() == types.MethodExpr {
		got["method-expression"] = true
	}
	if s.Kind() == types.MethodVal && !called {
		got["method-value"] = true
	}
	if s.Kind() != types.FieldVal && types.IsInterface(s.Recv()) {
		got["interface-call"] = true
	}
}

func (r *reader) lookType(n ast.Node, got map[string]bool) {
	switch x := n.(type) {
	case *ast.MapType:
		got["map"] = true
		r.lookElement(x.Value, got)
	case *ast.InterfaceType:
		if len(x.Methods.List) > 0 {
			got["interface"] = true
		}
	case *ast.StructType:
		for _, f := range x.Fields.List {
			if len(f.Names) == 0 {
				got["embedding"] = true
			}
			r.lookElement(f.Type, got)
		}
	case *ast.FuncDecl:
		if x.Type.TypeParams != nil {
			got["generic-function"] = true
		}
	case *ast.Ellipsis:
		if x.Elt != nil {
			got["variadic"] = true
		}
	case *ast.ArrayType:
		r.lookElement(x.Elt, got)
		if x.Len != nil {
			got["array"] = true
		}
	}
}

// lookElement counts functions that are kept, in a field or in a list.
func (r *reader) lookElement(e ast.Expr, got map[string]bool) {
	if _, ok := r.under(e).(*types.Signature); ok {
		got["function-field"] = true
	}
}

func (r *reader) lookOther(n ast.Node, got map[string]bool) {
	switch x := n.(type) {
	case *ast.FuncLit:
		got["closure"] = true
	case *ast.LabeledStmt:
		got["label"] = true
	case *ast.TypeAssertExpr:
		if x.Type != nil {
			got["assertion"] = true
		}
	case *ast.SliceExpr:
		if x.Slice3 {
			got["three-index"] = true
		}
	case *ast.Ident:
		if o := r.info.Uses[x]; o != nil && o.Pkg() == nil && o.Name() == "iota" {
			got["iota"] = true
		}
	case *ast.BinaryExpr:
		if _, ok := r.under(x.X).(*types.Struct); ok && (x.Op == token.EQL || x.Op == token.NEQ) {
			got["struct-compared"] = true
		}
	case *ast.IndexExpr:
		if m, ok := r.under(x.X).(*types.Map); ok {
			if _, ok := m.Key().Underlying().(*types.Struct); ok {
				got["struct-compared"] = true
			}
		}
	case *ast.RangeStmt:
		switch t := r.under(x.X).(type) {
		case *types.Signature:
			got["range-function"] = true
		case *types.Basic:
			if t.Info()&types.IsString == 0 {
				got["range-integer"] = true
			}
		}
	}
}
