package build_test

import (
	"encoding/json"
	"fmt"
	"os"
	"os/exec"
	"path/filepath"
	"strings"
	"testing"

	"lurcher/api"
)

// No pattern has a tree that is too large: TestLargest has the largest ones. So a program is run in which another parser has the place of the project's own: it makes trees of any size.

// anyParser makes of a size, a depth and letters, with blanks between, a NodeSeq of that size and depth that has a part for each letter. Of g, r and w it is a part that groups, refs and widths find an error in; what o stands for is nothing in later steps, and what e stands for is more.
const anyParser = `package parse

import "lurcher/api"

func Parse(l []api.Token, _ int) (api.Node, api.Errno, int) {
	var numbers [3]int
	part, nodes, kids := 0, 1, []api.Node(nil)
	for _, t := range l {
		switch {
		case t.C == ' ':
			part++
		case t.C >= '0' && t.C <= '9':
			numbers[part] = 10*numbers[part] + t.C - '0'
		default:
			kids, nodes = append(kids, parts()[t.C]...), nodes + sizes()[t.C]
		}
	}
	lit := api.Node{Kind: api.NodeLit, C: 'a'}
	deep := lit
	for range numbers[1] - 2 {
		deep = api.Node{Kind: api.NodeAtomic, Kids: []api.Node{deep}}
	}
	kids, nodes = append(kids, deep), nodes + numbers[1] - 1
	for range numbers[0] - nodes {
		kids = append(kids, lit)
	}
	n := api.Node{Kind: api.NodeSeq, Kids: kids}
	if l[len(l)-1].C == 'p' {
		return n, api.ErrParen, 3
	}
	return n, api.OK, 0
}

func parts() map[int][]api.Node {
	lit := api.Node{Kind: api.NodeLit, C: 'a'}
	group := api.Node{Kind: api.NodeCap, At: 4, Name: "n", Kids: []api.Node{lit}}
	star := api.Node{Kind: api.NodeRep, M: -1, Kids: []api.Node{lit}}
	return map[int][]api.Node{
		'g': {group, group},
		'r': {{Kind: api.NodeBack, At: 5, N: 9}},
		'w': {{Kind: api.NodeLook, At: 6, N: api.Behind, Kids: []api.Node{star}}},
		'o': {{Kind: api.NodeFlags}},
		'e': {{Kind: api.NodeLine}},
	}
}

func sizes() map[int]int { return map[int]int{'g': 4, 'r': 1, 'w': 3, 'o': 1, 'e': 1} }
`

// asker writes what Build answers for each argument: the error, where it is, and how many Kids the tree has.
const asker = `package main

import (
	"fmt"
	"os"

	"lurcher/build"
)

func main() {
	for _, pattern := range os.Args[1:] {
		c, errno, at := build.Build([]byte(pattern), 0)
		fmt.Println(int(errno), at, len(c.Tree.Kids))
	}
}
`

// overlay is a file that puts another parser into the place of the one in the project's folder.
func overlay(t *testing.T, project, scratch string) string {
	t.Helper()
	replaced := map[string]string{filepath.Join(project, "parse", "any.go"): write(t, scratch, "any.go", []byte(anyParser))}
	files, err := filepath.Glob(filepath.Join(project, "parse", "*.go"))
	if err != nil || len(files) == 0 {
		t.Fatal("no parser: ", err)
	}
	for _, file := range files {
		replaced[file] = ""
	}
	text, err := json.Marshal(map[string]any{"Replace": replaced})
	if err != nil {
		t.Fatal(err)
	}
	return write(t, scratch, "overlay.json", text)
}

func write(t *testing.T, folder, name string, text []byte) string {
	t.Helper()
	path := filepath.Join(folder, name)
	if err := os.WriteFile(path, text, 0o600); err != nil {
		t.Fatal(err)
	}
	return path
}

// told is what the program tells of some descriptions of trees, a line for each.
func told(t *testing.T, descriptions []string) []string {
	t.Helper()
	project, err := filepath.Abs("..")
	if err != nil {
		t.Fatal(err)
	}
	scratch := t.TempDir()
	program := write(t, scratch, "main.go", []byte(asker))
	command := exec.Command("go", append([]string{"run", "-overlay", overlay(t, project, scratch), program}, descriptions...)...)
	command.Dir = project
	var complaints strings.Builder
	command.Stderr = &complaints
	out, err := command.Output()
	if err != nil {
		t.Fatal(err, complaints.String())
	}
	return strings.Split(strings.TrimSpace(string(out)), "\n")
}

// TestTooLarge: P12.1: trees of the greatest size and depth that may be, and beyond.
func TestTooLarge(t *testing.T) {
	fine := func(kids int) string { return fmt.Sprint(int(api.OK), 0, kids) }
	bad := func(errno api.Errno, at int) string { return fmt.Sprint(int(errno), at, 0) }
	large := bad(api.ErrSize, 0)
	var descriptions, wants []string
	for _, x := range []struct{ description, want string }{
		{"4 2 ", fine(3)},
		{"3999 2 ", fine(3998)},
		{"4000 2 ", fine(3999)},
		{"4001 2 ", large},
		{"4002 2 ", large},
		{"8001 2 ", large},
		{"100000 2 ", large},
		{"299 299 ", fine(1)},
		{"300 300 ", fine(1)},
		{"301 301 ", large},
		{"302 302 ", large},
		{"3000 3000 ", large},
		{"1000 299 ", fine(702)},
		{"1000 300 ", fine(701)},
		{"1000 301 ", large},
		{"4000 300 ", fine(3701)},
		{"4000 301 ", large},
		{"4001 300 ", large},
		{"9000 5000 ", large},
		// as the parser makes them
		{"4000 9 e", fine(3992)},
		{"4000 9 o", fine(3991)},
		{"4001 9 e", large},
		{"4001 9 o", large},
		// ahead of errors of later steps
		{"100 9 g", bad(api.ErrTwice, 4)},
		{"100 9 r", bad(api.ErrRef, 5)},
		{"100 9 w", bad(api.ErrBehind, 6)},
		{"4000 300 g", bad(api.ErrTwice, 4)},
		{"4000 300 r", bad(api.ErrRef, 5)},
		{"4000 300 w", bad(api.ErrBehind, 6)},
		{"4000 300 wrg", bad(api.ErrTwice, 4)},
		{"4001 300 g", large},
		{"4001 300 r", large},
		{"4001 300 w", large},
		{"4000 301 g", large},
		{"4000 301 r", large},
		{"4000 301 w", large},
		{"100000 400 wrg", large},
		// behind errors of earlier steps
		{"4001 301 p", bad(api.ErrParen, 3)},
		{`4001 301 \`, bad(api.ErrEnd, 10)},
		{`4001 301 \y`, bad(api.ErrEscape, 9)},
	} {
		descriptions, wants = append(descriptions, x.description), append(wants, x.want)
	}
	lines := told(t, descriptions)
	if len(lines) != len(wants) {
		t.Fatalf("%d lines for %d trees", len(lines), len(wants))
	}
	for i, want := range wants {
		if lines[i] != want {
			t.Errorf("%q: %s, want %s", descriptions[i], lines[i], want)
		}
	}
}
