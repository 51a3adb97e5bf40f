// Package rules holds the program's own files against the rules of its language that can be told from their text.
package rules

import (
	"bytes"
	"go/ast"
	"go/format"
	"go/parser"
	"go/token"
	"os"
	"path/filepath"
	"slices"
	"strconv"
	"strings"
	"testing"
)

const longest = 60 // lines of a function

// layers are the program's packages, by name: what else lies in the module's folders isn't the program.
var layers = strings.Fields("api sha crc flash part journal image slots opt msg block cache exch plain value tlv path link schema tree access watch fsm fw reg serve client story")

// library is what may be imported of the language's library.
var library = strings.Fields("bytes cmp container/heap errors iter maps math math/bits slices sort strconv strings sync sync/atomic unicode unicode/utf8")

// wrong tells what of a file the rules don't allow.
func wrong(name string, text []byte) []string {
	fset := token.NewFileSet()
	file, err := parser.ParseFile(fset, name, text, parser.ParseComments)
	if err != nil {
		return []string{err.Error()}
	}
	var found []string
	if laid, err := format.Source(text); err != nil || !bytes.Equal(laid, text) {
		found = append(found, "not in gofmt's layout")
	}
	for _, i := range file.Imports {
		path, _ := strconv.Unquote(i.Path.Value)
		own, is := strings.CutPrefix(path, "outpost/")
		if !slices.Contains(library, path) && !(is && slices.Contains(layers, own)) {
			found = append(found, "imports "+path)
		}
	}
	for _, group := range file.Comments {
		for _, c := range group.List {
			if strings.HasPrefix(c.Text, "//go:") || strings.HasPrefix(c.Text, "// +build") {
				found = append(found, "has the line "+c.Text)
			}
		}
	}
	for _, d := range file.Decls {
		f, is := d.(*ast.FuncDecl)
		if is && fset.Position(f.End()).Line-fset.Position(f.Pos()).Line >= longest {
			found = append(found, "has a long function, "+f.Name.Name)
		}
	}
	return found
}

func TestTheProgramKeepsTheRules(t *testing.T) {
	for _, layer := range layers {
		files, err := os.ReadDir(filepath.Join("..", layer))
		if err != nil {
			t.Error(err)
		}
		for _, f := range files {
			name := filepath.Join("..", layer, f.Name())
			if !strings.HasSuffix(name, ".go") {
				t.Errorf("%s: not a Go file", name)
			}
			if !strings.HasSuffix(name, ".go") || strings.HasSuffix(name, "_test.go") {
				continue
			}
			text, err := os.ReadFile(name)
			if err != nil {
				t.Error(err)
			}
			for _, w := range wrong(name, text) {
				t.Errorf("%s: %s", name, w)
			}
		}
	}
}

func TestWhatIsWrongIsTold(t *testing.T) {
	for _, c := range []struct{ text, want string }{
		{"package p\n\nimport \"strings\"\n\nfunc f() string { return strings.ToUpper(\"a\") }\n", ""},
		{"package p\n\nimport \"outpost/api\"\n\nconst ok = api.OK\n", ""},
		{"package p\n\nimport _ \"fmt\"\n", "imports fmt"},
		{"package p\n\nimport _ \"outpost/rules\"\n", "imports outpost/rules"},
		{"package p\n\n//go:noinline\nfunc f() {}\n", "has the line //go:noinline"},
		{"package p\n\nfunc f()  {}\n", "not in gofmt's layout"},
		{"package p\n\nfunc f() {\n" + strings.Repeat("\tf()\n", longest-2) + "}\n", ""},
		{"package p\n\nfunc f() {\n" + strings.Repeat("\tf()\n", longest-1) + "}\n", "has a long function, f"},
	} {
		if got := strings.Join(wrong("p.go", []byte(c.text)), "; "); got != c.want {
			t.Errorf("%s\n%s, want %s", c.text, got, c.want)
		}
	}
}
