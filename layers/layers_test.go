// Package layers holds no code, only tests of what stands for all packages: which layer calls which, and how the files are written.
package layers

import (
	"bytes"
	"go/ast"
	"go/format"
	"go/parser"
	"go/token"
	"os"
	"path/filepath"
	"slices"
	"strconv"
	"strings"
	"testing"
)

// calls is the document's map: which packages each layer may call, beside api.
func calls() map[string]string {
	return map[string]string{
		"api":      "",
		"bits":     "",
		"bitio":    "bits",
		"gf2":      "",
		"crc32":    "",
		"crc16":    "",
		"conv":     "bits",
		"trellis":  "conv",
		"soft":     "bits",
		"viterbi":  "conv trellis soft",
		"pattern":  "",
		"version":  "bits conv pattern",
		"distance": "trellis pattern",
		"combine":  "bits soft viterbi pattern version",
		"seq":      "",
		"ackmap":   "seq",
		"frame":    "bits bitio crc16 version seq ackmap",
		"harq":     "bits crc32 version combine frame",
		"pool":     "seq harq",
		"wheel":    "seq",
		"backoff":  "",
		"rate":     "",
		"sched":    "",
		"sender":   "seq ackmap frame harq wheel backoff rate sched",
		"receiver": "seq ackmap frame pool",
		"link":     "seq frame sender receiver",
		"channel":  "bits",
		"run":      "seq frame link channel",
		"fifo":     "",
		"script":   "bitio seq run",
		"stats":    "link run",
		"shell":    "run stats",
		"spectrum": "trellis pattern",
		"shuffle":  "",
		"pieces":   "",
		"duplex":   "seq link channel",
		"mux":      "link",
		"bound":    "backoff",
	}
}

// library is what of Go's own library a package may import.
func library() []string {
	return strings.Fields("bytes cmp container/heap errors iter maps math math/bits slices sort strconv strings sync sync/atomic unicode unicode/utf8")
}

// source is a file that isn't a test.
type source struct {
	path, layer string
	text        []byte
	set         *token.FileSet
	file        *ast.File
}

// sources reads all of a layer's files but its tests.
func sources(t *testing.T, layer string) []source {
	t.Helper()
	paths, err := filepath.Glob(filepath.Join("..", layer, "*"))
	if err != nil {
		t.Fatal(err)
	}
	var l []source
	for _, path := range paths {
		if strings.HasSuffix(path, "_test.go") {
			continue
		}
		if !strings.HasSuffix(path, ".go") {
			t.Errorf("%s: a file beside the Go files", path)
			continue
		}
		text, err := os.ReadFile(path)
		if err != nil {
			t.Fatal(err)
		}
		set := token.NewFileSet()
		file, err := parser.ParseFile(set, path, text, parser.ParseComments)
		if err != nil {
			t.Fatal(err)
		}
		l = append(l, source{path, layer, text, set, file})
	}
	if len(l) == 0 {
		t.Errorf("%s: no package", layer)
	}
	return l
}

func TestImports(t *testing.T) {
	for layer, below := range calls() {
		allowed := append(library(), "shuttle/api")
		for _, name := range strings.Fields(below) {
			allowed = append(allowed, "shuttle/"+name)
		}
		for _, s := range sources(t, layer) {
			for _, x := range s.file.Imports {
				if path, err := strconv.Unquote(x.Path.Value); err != nil || !slices.Contains(allowed, path) {
					t.Errorf("%s imports %s", s.path, x.Path.Value)
				}
			}
		}
	}
}

func TestLayout(t *testing.T) {
	for layer := range calls() {
		for _, s := range sources(t, layer) {
			if laid, err := format.Source(s.text); err != nil || !bytes.Equal(laid, s.text) {
				t.Errorf("%s isn't in gofmt's layout", s.path)
			}
			if s.file.Name.Name != s.layer {
				t.Errorf("%s is of package %s", s.path, s.file.Name.Name)
			}
			if strings.Contains(string(s.text), "//go:") {
				t.Errorf("%s has a //go: line", s.path)
			}
			for _, d := range s.file.Decls {
				f, ok := d.(*ast.FuncDecl)
				if ok && s.set.Position(f.End()).Line-s.set.Position(f.Pos()).Line > 60 {
					t.Errorf("%s: %s is too long", s.path, f.Name.Name)
				}
			}
		}
	}
}

// ways is which of the language's ways the document asks of which layers.
func ways() map[string]string {
	return map[string]string{
		"rate":   "fallthrough",
		"shell":  "fallthrough",
		"frame":  "errors.Is errors.As",
		"script": "errors.Is errors.As",
	}
}

// leansOn are those of these ways on which a file leans.
func leansOn(s source) []string {
	var l []string
	ast.Inspect(s.file, func(n ast.Node) bool {
		switch x := n.(type) {
		case *ast.BranchStmt:
			if x.Tok == token.FALLTHROUGH {
				l = append(l, "fallthrough")
			}
		case *ast.SelectorExpr:
			if p, ok := x.X.(*ast.Ident); ok {
				l = append(l, p.Name+"."+x.Sel.Name)
			}
		}
		return true
	})
	return l
}

func TestWays(t *testing.T) {
	for layer, asked := range ways() {
		var l []string
		for _, s := range sources(t, layer) {
			l = append(l, leansOn(s)...)
		}
		for _, way := range strings.Fields(asked) {
			if !slices.Contains(l, way) {
				t.Errorf("%s doesn't lean on %s", layer, way)
			}
		}
	}
}
