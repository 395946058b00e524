package rules

import (
	"go/parser"
	"go/token"
	"path/filepath"
	"slices"
	"strconv"
	"strings"
	"testing"
)

const module = "ballast/"

// layers are the packages of the document's map, from layer 1 on.
func layers() []string {
	return strings.Fields("cells turns classes blocks bits deque quiet arena safe gang mark sums plan adjust slide collect monitor code check graph thread run")
}

// calls says which layers each one of the map may call, beside api.
func calls() map[string][]int {
	return map[string][]int{
		"blocks":  {1, 3},
		"deque":   {1},
		"quiet":   {1, 6},
		"arena":   {1, 3},
		"gang":    {1},
		"mark":    {1, 3, 4, 5, 6, 7},
		"sums":    {1, 10},
		"plan":    {5, 12},
		"adjust":  {1, 3, 4, 5, 10, 13},
		"slide":   {1, 5, 13},
		"collect": {1, 3, 4, 5, 6, 7, 10, 11, 12, 13, 14, 15},
		"check":   {3, 18},
		"graph":   {3, 17, 19},
		"thread":  {1, 3, 4, 8, 17, 19},
		"run":     {1, 3, 4, 5, 6, 7, 8, 9, 10, 11, 12, 13, 14, 15, 16, 17, 18, 19, 20, 21},
	}
}

// library are the packages of the library that the program may import.
func library() []string {
	return strings.Fields("bytes cmp container/heap errors iter maps math math/bits slices sort strconv strings sync sync/atomic unicode unicode/utf8")
}

// imports are those of a package's files, without its tests.
func imports(t *testing.T, name string) []string {
	t.Helper()
	files, err := filepath.Glob(filepath.Join("..", name, "*.go"))
	if err != nil || len(files) == 0 {
		t.Fatalf("%s: %d files, %v", name, len(files), err)
	}
	var l []string
	for _, f := range files {
		if strings.HasSuffix(f, "_test.go") {
			continue
		}
		file, err := parser.ParseFile(token.NewFileSet(), f, nil, parser.ImportsOnly)
		if err != nil {
			t.Fatal(err)
		}
		for _, i := range file.Imports {
			path, err := strconv.Unquote(i.Path.Value)
			if err != nil {
				t.Fatal(err)
			}
			l = append(l, path)
		}
	}
	return l
}

// A layer leans on api, on the layers that the map names, on packages beside
// the map, and on the library as far as the language has it.
func TestLayersCallWhatTheMapSays(t *testing.T) {
	for _, name := range layers() {
		for _, path := range imports(t, name) {
			inner, own := strings.CutPrefix(path, module)
			layer := 1 + slices.Index(layers(), inner)
			switch {
			case own && layer > 0 && !slices.Contains(calls()[name], layer):
				t.Errorf("%s calls %s", name, inner)
			case !own && !slices.Contains(library(), path):
				t.Errorf("%s imports %s", name, path)
			}
		}
	}
}
