// Package rules tests the text of the program: the rules that hold for the code of every package.
package rules

import (
	"bytes"
	"go/ast"
	"go/build"
	"go/format"
	"go/importer"
	"go/parser"
	"go/token"
	"go/types"
	"os"
	"os/exec"
	"path/filepath"
	"slices"
	"strings"
	"testing"
)

const module = "gangsaw/"

// layers has the packages from the lowest layer to the highest one. A package imports lower ones only.
var layers = strings.Fields(`api
	span codec vector fraction polygon box plane prism lexer parser printer shift survey boring model sound bench support crane precedence
	extraction quarry kerf guillotine flatpack boxpack shelf orient saw slab offcut lineage sample grade colour bookmatch stock assign profile arch
	wall stair tolerance anchor cutlist nest setting replace machine jobshop drying critical truck loading journal trace query certificate yard console`)

var library = strings.Fields("bytes cmp container/heap errors iter maps math math/bits slices sort strconv strings sync sync/atomic unicode unicode/utf8")

// source is a file of a package, without the tests.
type source struct {
	pack, path string
	text       []byte
	file       *ast.File
	set        *token.FileSet
}

func sources(t *testing.T, packs ...string) []source {
	t.Helper()
	var list []source
	for _, pack := range packs {
		paths, err := filepath.Glob(filepath.Join("..", pack, "*.go"))
		if err != nil || len(paths) == 0 {
			t.Fatalf("package %s has no files: %v", pack, err)
		}
		for _, path := range paths {
			if strings.HasSuffix(path, "_test.go") {
				continue
			}
			text, err := os.ReadFile(path)
			if err != nil {
				t.Fatal(err)
			}
			set := token.NewFileSet()
			file, err := parser.ParseFile(set, path, text, parser.ParseComments)
			if err != nil {
				t.Fatal(err)
			}
			list = append(list, source{pack, path, text, file, set})
		}
	}
	return list
}

func TestPackageNames(t *testing.T) {
	for _, s := range sources(t, layers...) {
		if s.file.Name.Name != s.pack {
			t.Errorf("%s: package %s", s.path, s.file.Name.Name)
		}
	}
}

func TestFolders(t *testing.T) {
	for _, pack := range layers {
		entries, err := os.ReadDir(filepath.Join("..", pack))
		if err != nil {
			t.Fatal(err)
		}
		for _, entry := range entries {
			if entry.IsDir() || !strings.HasSuffix(entry.Name(), ".go") {
				t.Errorf("%s has %s, which is no Go file", pack, entry.Name())
			}
		}
	}
}

func TestImports(t *testing.T) {
	for _, s := range sources(t, layers...) {
		lower := layers[:slices.Index(layers, s.pack)]
		for _, i := range s.file.Imports {
			path := strings.Trim(i.Path.Value, `"`)
			own, isOwn := strings.CutPrefix(path, module)
			if isOwn && !slices.Contains(lower, own) {
				t.Errorf("%s imports %s, which is not below it", s.path, path)
			}
			if !isOwn && !slices.Contains(library, path) {
				t.Errorf("%s imports %s", s.path, path)
			}
		}
	}
}

// TestImportsOfChapters has the packages whose chapters name all that they import. The word library stands for all of it.
func TestImportsOfChapters(t *testing.T) {
	for pack, allowed := range map[string]string{
		"box":     "api",
		"plane":   "api box vector",
		"parser":  "api lexer",
		"printer": "api lexer parser",
		"survey":  "api box lexer polygon prism span library",
		"boring":  "api box lexer parser survey library",
		"model":   "api box library",
	} {
		for _, s := range sources(t, pack) {
			for _, i := range s.file.Imports {
				path := strings.Trim(i.Path.Value, `"`)
				name, isOwn := strings.CutPrefix(path, module)
				if !isOwn {
					name = "library"
				}
				if !slices.Contains(strings.Fields(allowed), name) {
					t.Errorf("%s imports %s", s.path, path)
				}
			}
		}
	}
}

func TestLayout(t *testing.T) {
	for _, s := range sources(t, layers...) {
		if formatted, err := format.Source(s.text); err != nil || !bytes.Equal(formatted, s.text) {
			t.Errorf("%s is not in gofmt's layout", s.path)
		}
		for _, d := range s.file.Decls {
			from, to := s.set.Position(d.Pos()).Line, s.set.Position(d.End()).Line
			if f, ok := d.(*ast.FuncDecl); ok && to-from >= 60 {
				t.Errorf("%s: %s has %d lines", s.path, f.Name.Name, to-from+1)
			}
		}
	}
}

func TestNoDirectives(t *testing.T) {
	for _, s := range sources(t, layers...) {
		for _, group := range s.file.Comments {
			for _, c := range group.List {
				if strings.HasPrefix(c.Text, "//go:") || strings.HasPrefix(c.Text, "// +build") {
					t.Errorf("%s has the directive %s", s.path, c.Text)
				}
			}
		}
	}
}

func TestNoFloatsAndNoPrinting(t *testing.T) {
	names := strings.Fields("float32 float64 complex64 complex128 print println unsafe")
	for _, s := range sources(t, layers...) {
		ast.Inspect(s.file, func(n ast.Node) bool {
			if name, ok := n.(*ast.Ident); ok && slices.Contains(names, name.Name) {
				t.Errorf("%s uses %s", s.path, name.Name)
			}
			if l, ok := n.(*ast.BasicLit); ok && (l.Kind == token.FLOAT || l.Kind == token.IMAG) {
				t.Errorf("%s has the number %s", s.path, l.Value)
			}
			return true
		})
	}
}

// TestPackageLevel looks for variables that are not written out at their declaration.
func TestPackageLevel(t *testing.T) {
	for _, s := range sources(t, layers...) {
		for _, d := range s.file.Decls {
			g, ok := d.(*ast.GenDecl)
			if !ok || g.Tok != token.VAR {
				continue
			}
			for _, spec := range g.Specs {
				v := spec.(*ast.ValueSpec)
				if len(v.Values) == 0 {
					t.Errorf("%s: %s has no value", s.path, v.Names[0].Name)
				}
				for _, value := range v.Values {
					if what := notLiteral(value); what != "" {
						t.Errorf("%s: %s is made by %s", s.path, v.Names[0].Name, what)
					}
				}
			}
		}
	}
}

func notLiteral(value ast.Expr) string {
	what := ""
	ast.Inspect(value, func(n ast.Node) bool {
		switch x := n.(type) {
		case *ast.CallExpr:
			if types.ExprString(x.Fun) != "errors.New" {
				what = "a call of " + types.ExprString(x.Fun)
			}
		case *ast.FuncLit, *ast.MapType, *ast.FuncType, *ast.ChanType:
			what = "a function, a map or a channel"
		}
		return what == ""
	})
	return what
}

// ways are the language features of a package that the document asks for.
type ways map[string]bool

func waysOf(t *testing.T, pack string) ways {
	t.Helper()
	set := token.NewFileSet()
	var files []*ast.File
	for _, s := range sources(t, pack) {
		file, err := parser.ParseFile(set, s.path, s.text, 0)
		if err != nil {
			t.Fatal(err)
		}
		files = append(files, file)
	}
	info := &types.Info{Types: map[ast.Expr]types.TypeAndValue{}, Defs: map[*ast.Ident]types.Object{}, Uses: map[*ast.Ident]types.Object{}}
	config := types.Config{Importer: fromSource{importer.ForCompiler(set, "source", nil), set, map[string]*types.Package{}}}
	if _, err := config.Check(module+pack, set, files, info); err != nil {
		t.Fatal(err)
	}
	w := ways{}
	for _, file := range files {
		ast.Inspect(file, func(n ast.Node) bool {
			w.look(n, info)
			return true
		})
	}
	return w
}

func (w ways) look(n ast.Node, info *types.Info) {
	switch x := n.(type) {
	case *ast.Ellipsis:
		w["variadic"] = w["variadic"] || x.Elt != nil
	case *ast.FuncLit:
		w["closure"] = true
		w["choosing-closure"] = w["choosing-closure"] || appendsSome(x)
		w["iterator"] = w["iterator"] || yields(x, info)
	case *ast.AssignStmt:
		w["recursive-closure"] = w["recursive-closure"] || callsItself(x, info)
	case *ast.ArrayType:
		w["array"] = w["array"] || x.Len != nil
		w["array-of-slices"] = w["array-of-slices"] || x.Len != nil && isSlice(x.Elt)
		w["array-of-pointers"] = w["array-of-pointers"] || x.Len != nil && isPointer(x.Elt)
		w["slice-of-slices"] = w["slice-of-slices"] || x.Len == nil && isSlice(x.Elt)
	case *ast.LabeledStmt:
		w["label"] = true
	case *ast.MapType:
		w["map"] = true
		w["map-from-words-to-kinds"] = w["map-from-words-to-kinds"] || types.ExprString(x) == "map[string]int"
	case *ast.RangeStmt:
		w.lookAtRange(info.TypeOf(x.X).Underlying())
	case *ast.BinaryExpr:
		w["struct-compared"] = w["struct-compared"] || comparesStructs(x, info)
	case *ast.CallExpr:
		w["copy"] = w["copy"] || isCopy(x)
		w["search-closure"] = w["search-closure"] || searchesByClosure(x)
		w["sorts"] = w["sorts"] || slices.Contains([]string{"slices.Sort", "slices.SortFunc", "slices.Sorted"}, types.ExprString(x.Fun))
	case *ast.FuncDecl:
		w["loop-over-copy"] = w["loop-over-copy"] || loopsOverCopy(x, info)
		w["struct-compared-first"] = w["struct-compared-first"] || x.Name.Name == "Compare" && beginsWithStructs(x, info)
	case *ast.SelectorExpr:
		w["128-bits"] = w["128-bits"] || types.ExprString(x) == "bits.Mul64"
	case *ast.ReturnStmt:
		w["returned-closure"] = w["returned-closure"] || slices.ContainsFunc(x.Results, isClosure)
	case *ast.StructType:
		w["reader"] = w["reader"] || isReader(x)
	}
}

func (w ways) lookAtRange(over types.Type) {
	switch x := over.(type) {
	case *types.Array:
		w["range-array"] = true
	case *types.Signature:
		w["range-function"] = true
	case *types.Basic:
		w["range-integer"] = w["range-integer"] || x.Info()&types.IsInteger != 0
		w["range-string"] = w["range-string"] || x.Info()&types.IsString != 0
	}
}

func comparesStructs(e ast.Expr, info *types.Info) bool {
	x, ok := e.(*ast.BinaryExpr)
	if !ok || x.Op != token.EQL && x.Op != token.NEQ {
		return false
	}
	_, ok = info.TypeOf(x.X).Underlying().(*types.Struct)
	return ok
}

// beginsWithStructs reports whether the first statement of a function compares two structs.
func beginsWithStructs(f *ast.FuncDecl, info *types.Info) bool {
	if f.Body == nil || len(f.Body.List) == 0 {
		return false
	}
	first, ok := f.Body.List[0].(*ast.IfStmt)
	return ok && comparesStructs(first.Cond, info)
}

func isCopy(e ast.Expr) bool {
	call, ok := e.(*ast.CallExpr)
	return ok && slices.Contains([]string{"copy", "slices.Clone"}, types.ExprString(call.Fun))
}

// searchesByClosure reports whether a call is a binary search over a function literal.
func searchesByClosure(x *ast.CallExpr) bool {
	if !slices.Contains([]string{"sort.Search", "slices.BinarySearchFunc"}, types.ExprString(x.Fun)) {
		return false
	}
	_, ok := x.Args[len(x.Args)-1].(*ast.FuncLit)
	return ok
}

// loopsOverCopy reports whether a function ranges over a variable to which it assigns a copied slice.
func loopsOverCopy(f *ast.FuncDecl, info *types.Info) bool {
	copies, found := map[types.Object]bool{}, false
	ast.Inspect(f, func(n ast.Node) bool {
		switch x := n.(type) {
		case *ast.AssignStmt:
			if name, ok := x.Lhs[0].(*ast.Ident); ok && isCopy(x.Rhs[0]) {
				copies[info.ObjectOf(name)] = true
			}
		case *ast.RangeStmt:
			name, ok := x.X.(*ast.Ident)
			found = found || ok && copies[info.ObjectOf(name)]
		}
		return true
	})
	return found
}

// callsItself reports whether a function literal is assigned to a variable that it uses.
func callsItself(x *ast.AssignStmt, info *types.Info) bool {
	variable, isName := x.Lhs[0].(*ast.Ident)
	function, isFunction := x.Rhs[0].(*ast.FuncLit)
	if !isName || !isFunction {
		return false
	}
	used := false
	ast.Inspect(function, func(n ast.Node) bool {
		name, ok := n.(*ast.Ident)
		used = used || ok && info.ObjectOf(name) == info.ObjectOf(variable)
		return true
	})
	return used
}

// appendsSome reports whether a function literal appends something on a condition.
func appendsSome(x *ast.FuncLit) bool {
	found := false
	ast.Inspect(x, func(n ast.Node) bool {
		if condition, ok := n.(*ast.IfStmt); ok {
			ast.Inspect(condition.Body, func(n ast.Node) bool {
				call, ok := n.(*ast.CallExpr)
				found = found || ok && types.ExprString(call.Fun) == "append"
				return true
			})
		}
		return true
	})
	return found
}

// yields reports whether a function literal takes a function that tells whether to go on, and returns nothing.
func yields(x *ast.FuncLit, info *types.Info) bool {
	of, ok := info.TypeOf(x).(*types.Signature)
	if !ok || of.Params().Len() != 1 || of.Results().Len() != 0 {
		return false
	}
	yield, ok := of.Params().At(0).Type().Underlying().(*types.Signature)
	return ok && yield.Results().Len() == 1 && types.Identical(yield.Results().At(0).Type(), types.Typ[types.Bool])
}

func isClosure(x ast.Expr) bool {
	_, ok := x.(*ast.FuncLit)
	return ok
}

func isSlice(x ast.Expr) bool {
	a, ok := x.(*ast.ArrayType)
	return ok && a.Len == nil
}

func isPointer(x ast.Expr) bool {
	_, ok := x.(*ast.StarExpr)
	return ok
}

// isReader tells of a struct of a string and an offset.
func isReader(x *ast.StructType) bool {
	text, offset := false, false
	for _, f := range x.Fields.List {
		text = text || types.ExprString(f.Type) == "string"
		offset = offset || types.ExprString(f.Type) == "int"
	}
	return text && offset && len(x.Fields.List) == 2
}

// fromSource imports packages of the project from their files, since they are not installed.
type fromSource struct {
	library types.Importer
	set     *token.FileSet
	known   map[string]*types.Package
}

func (f fromSource) Import(path string) (*types.Package, error) {
	own, isOwn := strings.CutPrefix(path, module)
	if !isOwn {
		return f.library.Import(path)
	}
	if known := f.known[path]; known != nil {
		return known, nil
	}
	paths, err := filepath.Glob(filepath.Join("..", own, "*.go"))
	if err != nil {
		return nil, err
	}
	var files []*ast.File
	for _, p := range paths {
		if strings.HasSuffix(p, "_test.go") {
			continue
		}
		file, err := parser.ParseFile(f.set, p, nil, 0)
		if err != nil {
			return nil, err
		}
		files = append(files, file)
	}
	config := types.Config{Importer: f}
	pack, err := config.Check(path, f.set, files, nil)
	f.known[path] = pack
	return pack, err
}

func TestWays(t *testing.T) {
	// A trimmed go command does not record where its library lies.
	if build.Default.GOROOT == "" {
		out, err := exec.Command("go", "env", "GOROOT").Output()
		if err != nil {
			t.Fatal(err)
		}
		build.Default.GOROOT = strings.TrimSpace(string(out))
	}
	for pack, words := range map[string]string{
		"span":     "variadic struct-compared",
		"codec":    "variadic closure reader",
		"vector":   "array range-array struct-compared struct-compared-first",
		"fraction": "range-integer recursive-closure 128-bits",
		"polygon":  "closure variadic",
		"box":      "array array-of-slices closure choosing-closure",
		"plane":    "array range-array struct-compared",
		"prism":    "range-function closure iterator",
		"lexer":    "label array",
		"parser":   "array array-of-pointers map map-from-words-to-kinds range-string",
		"printer":  "closure recursive-closure slice-of-slices",
		"shift":    "range-function closure iterator",
		"survey":   "closure array",
		"boring":   "closure copy loop-over-copy search-closure",
		"model":    "closure map sorts returned-closure",
		"sound":    "closure search-closure",
	} {
		w := waysOf(t, pack)
		for _, word := range strings.Fields(words) {
			if !w[word] {
				t.Errorf("%s lacks the way %s", pack, word)
			}
		}
	}
}
