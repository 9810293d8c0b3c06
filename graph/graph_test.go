package graph

import (
	"fmt"
	"math"
	"math/rand"
	"reflect"
	"slices"
	"strings"
	"testing"

	"forebear/api"
	"forebear/chain"
	"forebear/disk"
	"forebear/filter"
	"forebear/store"
)

// put is a commit as the tests put it: what is answered is held against it, not against what the store tells.
type put struct {
	id, tree api.ID
	parents  []api.ID
	files    []api.Entry
	date     int64
}

// history is a disk with a store and a chain, and its commits in the order in which they were put.
type history struct {
	t    testing.TB
	d    *disk.Disk
	s    *store.Store
	c    *chain.Chain
	puts []put
}

func newHistory(t testing.TB) *history {
	t.Helper()
	h := &history{t: t, d: disk.New()}
	h.open()
	return h
}

// open opens store and chain anew.
func (h *history) open() {
	h.t.Helper()
	var e api.Errno
	if h.s, e = store.Open(h.d); e != api.OK {
		h.t.Fatal(e)
	}
	if h.c, e = chain.Open(h.d, h.s); e != api.OK {
		h.t.Fatal(e)
	}
}

// commit puts one above those of these numbers, with files that are told each as path, = and text, by rising path; its note makes it unlike the others.
func (h *history) commit(date int64, parents []int, files ...string) api.ID {
	h.t.Helper()
	p := put{date: date, parents: h.of(parents...)}
	var e api.Errno
	for _, file := range files {
		name, text, _ := strings.Cut(file, "=")
		entry := api.Entry{Path: name}
		if entry.Blob, e = h.s.Blob([]byte(text)); e != api.OK {
			h.t.Fatal(e, file)
		}
		p.files = append(p.files, entry)
	}
	if p.tree, e = h.s.Tree(p.files...); e != api.OK {
		h.t.Fatal(e, files)
	}
	c := api.Commit{Tree: p.tree, Parents: p.parents, Date: date, Note: fmt.Sprint("c", len(h.puts))}
	if p.id, e = h.s.Commit(c); e != api.OK {
		h.t.Fatal(e)
	}
	h.puts = append(h.puts, p)
	return p.id
}

// of is the IDs of the commits of these numbers.
func (h *history) of(numbers ...int) []api.ID {
	var ids []api.ID
	for _, n := range numbers {
		ids = append(ids, h.puts[n].id)
	}
	return ids
}

func (h *history) find(id api.ID) (put, bool) {
	for _, p := range h.puts {
		if p.id == id {
			return p, true
		}
	}
	return put{}, false
}

// write lays a layer of the commits of these numbers and their ancestors; without numbers of all.
func (h *history) write(numbers ...int) {
	h.t.Helper()
	h.must(h.c.Write(h.of(numbers...)...))
}

func (h *history) must(e api.Errno) {
	h.t.Helper()
	if e != api.OK {
		h.t.Fatal(e)
	}
}

// plain is a graph by the words of the chapter: what was put, which of it is covered, and what was read.
type plain struct {
	h            *history
	covered      []api.ID
	read, opened []api.ID
}

// made is the plain graph of a chain that covers the commits of these numbers.
func (h *history) made(numbers ...int) *plain { return &plain{h: h, covered: h.of(numbers...)} }

// from is the numbers of the commits of these numbers and of their ancestors.
func (h *history) from(numbers ...int) []int {
	ids := h.of(numbers...)
	// None is put ahead of its parents.
	for n := len(h.puts) - 1; n >= 0; n-- {
		if slices.Contains(ids, h.puts[n].id) {
			ids = append(ids, h.puts[n].parents...)
		}
	}
	var all []int
	for n, p := range h.puts {
		if slices.Contains(ids, p.id) {
			all = append(all, n)
		}
	}
	return all
}

func (h *history) all() []int {
	var all []int
	for n := range h.puts {
		all = append(all, n)
	}
	return all
}

func (p *plain) isCovered(id api.ID) bool { return slices.Contains(p.covered, id) }

// generations are those of all commits, covered or not.
func (h *history) generations() map[api.ID]int {
	all := map[api.ID]int{}
	for _, p := range h.puts {
		greatest := 0
		for _, parent := range p.parents {
			greatest = max(greatest, all[parent])
		}
		all[p.id] = min(greatest+1, 250)
	}
	return all
}

// changed is the paths that a commit changes against its first parent.
func (h *history) changed(id api.ID) []string {
	now, _ := h.find(id)
	var was put
	if len(now.parents) > 0 {
		was, _ = h.find(now.parents[0])
	}
	var paths []string
	for _, entry := range slices.Concat(was.files, now.files) {
		if slices.Contains(was.files, entry) != slices.Contains(now.files, entry) {
			paths = append(paths, entry.Path)
		}
	}
	return paths
}

func (p *plain) maybe(id api.ID, paths []string) bool {
	if !p.isCovered(id) {
		return true
	}
	f := filter.Make(p.h.changed(id)...)
	for _, text := range paths {
		if filter.Maybe(f, text) {
			return true
		}
	}
	return false
}

func (p *plain) allCovered(ids []api.ID) bool {
	if len(ids) == 0 {
		for _, c := range p.h.puts {
			ids = append(ids, c.id)
		}
	}
	for _, id := range ids {
		if !p.isCovered(id) {
			return false
		}
	}
	return true
}

// strangers are IDs of no commit: of trees and blobs, and of nothing.
func (h *history) strangers() []api.ID {
	ids := []api.ID{0, 1, 5, 1 << 63, math.MaxUint64}
	for _, p := range h.puts {
		ids = append(ids, p.tree, p.id+1, p.id-1, ^p.id)
		for _, entry := range p.files {
			ids = append(ids, entry.Blob)
		}
	}
	slices.Sort(ids)
	return slices.DeleteFunc(slices.Compact(ids), func(id api.ID) bool {
		_, is := h.find(id)
		return is
	})
}

func (h *history) allIDs() []api.ID { return append(h.of(h.all()...), h.strangers()...) }

// pathLists are what Maybe is asked of: none, one, several; paths, what leads to them, what is under them, and texts that are no path.
func pathLists() [][]string {
	texts := []string{"a", "b", "d", "d/b", "d/b/c", "d/e", "d/e/f", "f0", "f8", "q", "zz", "ab", "", "/", "a/", "A", "a//b",
		"\xff", "é", "a b", "abcdefghijklmnopq", "a/b/c/d/e/f/g", strings.Repeat("x", 5000)}
	lists := [][]string{nil, {}, {"q", "zz", "r", "s"}, {"q", "q", "d/e/f", "q"}, {"", "A", "f3"}, texts}
	for _, s := range texts {
		lists = append(lists, []string{s})
	}
	return lists
}

// wantRead holds what was read against the plain graph.
func wantRead(t testing.TB, what string, g *Graph, p *plain) {
	t.Helper()
	if read := g.Read(); !slices.Equal(read, p.read) || g.Visits() != len(p.read) {
		t.Errorf("%s: Read: %x, Visits: %d, want %x", what, read, g.Visits(), p.read)
	}
	if opened := g.Opened(); !slices.Equal(opened, p.opened) || g.Trees() != len(p.opened) {
		t.Errorf("%s: Opened: %x, Trees: %d, want %x", what, opened, g.Trees(), p.opened)
	}
}

func wantParents(t testing.TB, what string, g *Graph, p *plain, id api.ID) {
	t.Helper()
	want, is := p.h.find(id)
	if parents, ok := g.Parents(id); ok != is || !slices.Equal(parents, want.parents) {
		t.Errorf("%s: Parents of %x: %x, %v, want %x, %v", what, id, parents, ok, want.parents, is)
	}
	if is {
		p.read = append(p.read, id)
	}
}

func wantContent(t testing.TB, what string, g *Graph, p *plain, id api.ID) {
	t.Helper()
	want, is := p.h.find(id)
	if files, ok := g.Content(id); ok != is || !slices.Equal(files, want.files) {
		t.Errorf("%s: Content of %x: %v, %v, want %v, %v", what, id, files, ok, want.files, is)
	}
	if is {
		p.opened = append(p.opened, id)
	}
}

func wantDate(t testing.TB, what string, g *Graph, p *plain, id api.ID) {
	t.Helper()
	want, is := p.h.find(id)
	if date, ok := g.Date(id); ok != is || date != want.date {
		t.Errorf("%s: Date of %x: %d, %v, want %d, %v", what, id, date, ok, want.date, is)
	}
}

// wantKnown holds what is told of the rows against the plain graph; nothing is read by that.
func wantKnown(t testing.TB, what string, g *Graph, p *plain) {
	t.Helper()
	generations := p.h.generations()
	for _, id := range p.h.allIDs() {
		want := 0
		if p.isCovered(id) {
			want = generations[id]
		}
		if n, ok := g.Generation(id); ok != p.isCovered(id) || n != want {
			t.Errorf("%s: Generation of %x: %d, %v, want %d, %v", what, id, n, ok, want, p.isCovered(id))
		}
		if is := g.Covered(id); is != p.isCovered(id) {
			t.Errorf("%s: Covered of %x: %v", what, id, is)
		}
		for _, paths := range pathLists() {
			if is := g.Maybe(id, paths...); is != p.maybe(id, paths) {
				t.Errorf("%s: Maybe of %x, %.60q: %v", what, id, paths, is)
			}
		}
	}
	if is := g.Covered(); is != p.allCovered(nil) {
		t.Errorf("%s: Covered of all: %v", what, is)
	}
	wantRead(t, what, g, p)
}

// wantAll asks a graph for everything.
func wantAll(t testing.TB, what string, g *Graph, p *plain) {
	t.Helper()
	wantKnown(t, what, g, p)
	for _, id := range p.h.allIDs() {
		wantParents(t, what, g, p, id)
		wantContent(t, what, g, p, id)
		wantDate(t, what, g, p, id)
	}
	wantRead(t, what, g, p)
}

// wantNew asks a new graph for everything.
func wantNew(t testing.TB, what string, s *store.Store, c *chain.Chain, p *plain) *Graph {
	t.Helper()
	g := New(s, c)
	if g == nil || g.Store != s {
		t.Fatalf("%s: not a graph of the store", what)
	}
	wantAll(t, what, g, p)
	return g
}

// files is n of them, as commit takes them.
func files(n int, text string) []string {
	var list []string
	for i := range n {
		list = append(list, fmt.Sprintf("f%x=%s", i, text))
	}
	return list
}

// shapes is a history of many shapes: roots, a line, merges of two and of eight, no files, few and many changed paths, the least and the greatest Date.
func shapes(t testing.TB) *history {
	h := newHistory(t)
	h.commit(5, nil, "a=1", "d/b=2")                      // 0: a root
	h.commit(0, []int{0}, "a=1", "d/b=3")                 // 1
	h.commit(1<<40, []int{0}, "a=1", "d/b=2")             // 2: the files of its parent
	h.commit(7, []int{2, 1}, "d/b=3", "d/e/f=x")          // 3: a merge
	h.commit(7, []int{3})                                 // 4: without files
	h.commit(8, []int{4, 0}, files(9, "x")...)            // 5: nine paths, which are too many
	h.commit(9, []int{5}, "f0=x")                         // 6: eight paths go
	h.commit(3, nil)                                      // 7: a root without files
	h.commit(2, nil, "d/e=1")                             // 8: another root
	h.commit(4, []int{8, 7, 6, 5, 4, 3, 2, 1}, "d/e/f=x") // 9: of eight parents, in this order
	h.commit(6, []int{0, 9}, "a=1")                       // 10: one parent is far above the other
	h.commit(6, []int{9, 0}, "a=1")                       // 11: the same the other way round
	return h
}

func TestExamples(t *testing.T) {
	h := newHistory(t)
	id := h.commit(1, nil, "a=1")
	g := New(h.s, nil)
	g.Parents(id)
	g.Parents(id)
	g.Parents(5)
	if g.Visits() != 2 {
		t.Error(g.Visits())
	}
	if !g.Maybe(id, "q") {
		t.Error("Maybe of a commit that isn't covered")
	}
	if _, ok := g.Get(id); !ok || g.Visits() != 2 || g.Trees() != 0 {
		t.Error("Get read something")
	}
}

// P14.1: without a chain, with one that has no layers, with one that covers some, and with one that covers all.
func TestNew(t *testing.T) {
	h := shapes(t)
	none := wantNew(t, "nil", h.s, nil, h.made())
	wantNew(t, "no layers", h.s, h.c, h.made())
	var tips []int
	for _, more := range [][]int{{0}, {3}, {7, 3}, {6}, {9}} {
		h.write(more...)
		tips = append(tips, more...)
		wantNew(t, fmt.Sprint("behind Write of ", more), h.s, h.c, h.made(h.from(tips...)...))
	}
	h.write()
	wantNew(t, "behind Write of all", h.s, h.c, h.made(h.all()...))
	h.must(h.c.Merge(3))
	wantNew(t, "merged", h.s, h.c, h.made(h.all()...))
	h.must(h.c.Drop(1))
	wantNew(t, "dropped", h.s, h.c, h.made(h.from(7, 3)...))
	h.must(h.c.Drop(3))
	wantNew(t, "all dropped", h.s, h.c, h.made())
	if none.Covered(h.puts[0].id) {
		t.Error("the graph without a chain has rows")
	}
}

// P14.1: of a store without commits.
func TestNewOfAnEmptyStore(t *testing.T) {
	h := newHistory(t)
	for what, c := range map[string]*chain.Chain{"nil": nil, "no layers": h.c} {
		g := wantNew(t, what, h.s, c, h.made())
		if !g.Covered() || g.Covered(0) || g.Covered(5) || !g.Maybe(0) || !g.Maybe(0, "a") {
			t.Error(what)
		}
	}
}

// P14.1: the rows are those from when the graph was made, whatever is done to the chain.
func TestTheRowsOfItsMaking(t *testing.T) {
	h := shapes(t)
	type old struct {
		what string
		g    *Graph
		p    *plain
	}
	olds := []old{{"nil", New(h.s, nil), h.made()}}
	keep := func(what string, covered ...int) {
		olds = append(olds, old{what, New(h.s, h.c), h.made(covered...)})
		for _, o := range olds {
			wantAll(t, o.what+", behind "+what, o.g, o.p)
		}
	}
	keep("opening")
	h.write(0)
	keep("a layer", h.from(0)...)
	h.write(3)
	keep("two layers", h.from(3)...)
	h.write(6)
	keep("three layers", h.from(6)...)
	h.must(h.c.Merge(2))
	keep("merging", h.from(6)...)
	h.must(h.c.Drop(1))
	keep("dropping", h.from(0)...)
	h.write()
	keep("writing all", h.all()...)
	h.must(h.c.Drop(2))
	keep("dropping all")
	h.write(9)
	for _, name := range h.c.Names() {
		h.must(h.d.Spoil(name, 20, 1))
	}
	keep("spoiling", h.from(9)...)
	h.open()
	keep("opening anew")
}

// P14.1, P14.3: what is put behind New is there, and isn't covered.
func TestCommitsBehindNew(t *testing.T) {
	h := newHistory(t)
	empty, without := New(h.s, h.c), New(h.s, nil)
	pe, pw := h.made(), h.made()
	// The same commit of another history has the same ID.
	root := newHistory(t).commit(1, nil, "a=1")
	wantAll(t, "empty", empty, pe)
	wantParents(t, "empty", empty, pe, root)
	wantContent(t, "empty", empty, pe, root)
	if h.commit(1, nil, "a=1") != root {
		t.Fatal("another ID")
	}
	wantAll(t, "empty, with a commit more", empty, pe)
	wantAll(t, "without a chain, with a commit more", without, pw)
	if empty.Covered() || without.Covered() {
		t.Error("a new commit is covered")
	}
	h.write()
	g, p := New(h.s, h.c), h.made(0)
	wantAll(t, "one", g, p)
	if !g.Covered() || empty.Covered() {
		t.Error("Covered")
	}
	next := h.commit(2, []int{0}, "a=1")
	wantAll(t, "one, with a commit more", g, p)
	if g.Covered() || !g.Covered(root) || g.Covered(next) || g.Covered(root, next) {
		t.Error("Covered, with a commit more")
	}
	h.write()
	wantAll(t, "one, with a commit and a layer more", g, p)
	wantNew(t, "two", h.s, h.c, h.made(0, 1))
}

// calls are those of a store.
type calls interface {
	Blob(parts ...[]byte) (api.ID, api.Errno)
	Tree(entries ...api.Entry) (api.ID, api.Errno)
	Commit(c api.Commit) (api.ID, api.Errno)
	SetRef(name string, id api.ID) api.Errno
	DropRef(name string) api.Errno
	SetTag(name string, id api.ID) api.Errno
	Data(id api.ID) ([]byte, bool)
	Files(id api.ID) ([]api.Entry, bool)
	Get(id api.ID) (api.Commit, bool)
	Ref(name string) (api.ID, bool)
	Tag(name string) (api.ID, bool)
	Refs() []api.Named
	Tags() []api.Named
	Commits() []api.ID
}

// tellCalls calls all that a store has, with good and wrong arguments, and tells the answers.
func tellCalls(s calls) string {
	var b strings.Builder
	tell := func(list ...any) { fmt.Fprintln(&b, list...) }
	pair := func(x, y any) []any { return []any{x, y} }
	blob, e := s.Blob([]byte("x"), []byte("y"))
	tell(blob, e)
	tell(s.Blob(make([]byte, 4097)))
	tree, e := s.Tree(api.Entry{Path: "d/a", Blob: blob})
	tell(tree, e)
	tell(s.Tree(api.Entry{Path: "A", Blob: blob}))
	tell(s.Tree(api.Entry{Path: "a", Blob: 5}))
	root, e := s.Commit(api.Commit{Tree: tree, Date: 3})
	tell(root, e)
	id, e := s.Commit(api.Commit{Tree: tree, Parents: []api.ID{root}, Date: 4, Note: "n"})
	tell(id, e)
	tell(s.Commit(api.Commit{Tree: 5}))
	tell(s.Commit(api.Commit{Tree: tree, Date: -1}))
	tell(s.Commit(api.Commit{Tree: tree, Parents: []api.ID{root, root}}))
	tell(s.SetRef("main", id), s.SetRef("old", root), s.SetRef("main", 5), s.SetRef("M", id))
	tell(s.DropRef("old"), s.DropRef("old"), s.DropRef(""))
	tell(s.SetTag("v1", id), s.SetTag("v1", id), s.SetTag("v2", 5), s.SetTag("V", id), s.SetTag("v0", root))
	for _, id := range []api.ID{blob, tree, root, id, 0, 5} {
		tell(pair(s.Data(id)))
		tell(pair(s.Files(id)))
		tell(pair(s.Get(id)))
	}
	for _, name := range []string{"main", "old", "v0", "v1", ""} {
		tell(pair(s.Ref(name)))
		tell(pair(s.Tag(name)))
	}
	tell(s.Refs(), s.Tags(), s.Commits())
	return b.String()
}

// P14.1: the calls of the store are the graph's own, and read nothing.
func TestTheStoresCalls(t *testing.T) {
	for what, made := range map[string]func(h *history) *Graph{
		"nil":       func(h *history) *Graph { return New(h.s, nil) },
		"no layers": func(h *history) *Graph { return New(h.s, h.c) },
		"all":       func(h *history) *Graph { h.write(); return New(h.s, h.c) },
	} {
		h, other := shapes(t), shapes(t)
		if what == "all" {
			other.write()
		}
		g := made(h)
		parents := h.of(3, 3)
		g.Parents(parents[0])
		g.Parents(parents[1])
		g.Content(h.puts[1].id)
		if got, want := tellCalls(g), tellCalls(other.s); got != want {
			t.Errorf("%s: by the graph\n%s\nby the store\n%s", what, got, want)
		}
		if !slices.Equal(g.Read(), parents) || g.Visits() != 2 || !slices.Equal(g.Opened(), h.of(1)) || g.Trees() != 1 {
			t.Errorf("%s: %x, %x", what, g.Read(), g.Opened())
		}
		// What is put by the graph is put to the store, and lasts.
		for _, name := range h.d.Names() {
			mine, _ := h.d.Read(name)
			if want, _ := other.d.Read(name); !slices.Equal(mine, want) {
				t.Errorf("%s: the files %s aren't alike", what, name)
			}
		}
		if !slices.Equal(g.Commits(), h.s.Commits()) || !slices.Equal(g.Refs(), h.s.Refs()) || !slices.Equal(g.Tags(), h.s.Tags()) {
			t.Error(what, "the store tells something else")
		}
	}
}

// P14.1: what is put by a graph is at once in all graphs of its store.
func TestPutByAGraph(t *testing.T) {
	h := newHistory(t)
	one, two := New(h.s, h.c), New(h.s, nil)
	tree, e := one.Tree()
	h.must(e)
	id, e := one.Commit(api.Commit{Tree: tree, Date: 8})
	h.must(e)
	h.must(one.SetRef("main", id))
	for _, g := range []*Graph{one, two} {
		if date, ok := g.Date(id); !ok || date != 8 || g.Covered() {
			t.Error(date, ok, g.Covered())
		}
		if main, ok := g.Ref("main"); !ok || main != id {
			t.Error(main, ok)
		}
	}
	h.puts = []put{{id: id, tree: tree, date: 8}}
	wantAll(t, "one", one, h.made())
	wantAll(t, "two", two, h.made())
}

// P14.2: in the order in which the commit names them, each time as many.
func TestParents(t *testing.T) {
	h := shapes(t)
	for _, numbers := range [][]int{nil, h.from(5), h.all()} {
		if numbers != nil {
			h.write(numbers...)
		}
		g := New(h.s, h.c)
		for n, want := range [][]int{{}, {0}, {0}, {2, 1}, {3}, {4, 0}, {5}, {}, {}, {8, 7, 6, 5, 4, 3, 2, 1}, {0, 9}, {9, 0}} {
			if parents, ok := g.Parents(h.puts[n].id); !ok || !slices.Equal(parents, h.of(want...)) {
				t.Errorf("of %d, with %v covered: %x, %v", n, numbers, parents, ok)
			}
		}
		// Another one's order is another commit.
		a, _ := g.Parents(h.puts[10].id)
		b, _ := g.Parents(h.puts[11].id)
		if slices.Reverse(b); !slices.Equal(a, b) {
			t.Errorf("%x, %x", a, b)
		}
	}
}

// P14.2: a commit that names a parent twice is refused, so there is none.
func TestTheSameParentTwice(t *testing.T) {
	h := shapes(t)
	h.write()
	g := New(h.s, h.c)
	twice := api.Commit{Tree: h.puts[0].tree, Parents: h.of(0, 0)}
	id, e := g.Commit(twice)
	if e != api.ErrTwice || id != 0 {
		t.Errorf("%x, %v", id, e)
	}
	twice.Parents = h.of(3, 1, 2, 1)
	if id, e := g.Commit(twice); e != api.ErrTwice || id != 0 {
		t.Errorf("%x, %v", id, e)
	}
	wantAll(t, "behind it", g, h.made(h.all()...))
}

// P14.2: false, and nothing beside it, of all that is no commit.
func TestNoCommit(t *testing.T) {
	h := shapes(t)
	check := func(what string, g *Graph, ids []api.ID) {
		for _, id := range ids {
			if parents, ok := g.Parents(id); ok || len(parents) > 0 {
				t.Errorf("%s: Parents of %x: %x, %v", what, id, parents, ok)
			}
			if files, ok := g.Content(id); ok || len(files) > 0 {
				t.Errorf("%s: Content of %x: %v, %v", what, id, files, ok)
			}
			if date, ok := g.Date(id); ok || date != 0 {
				t.Errorf("%s: Date of %x: %d, %v", what, id, date, ok)
			}
			if n, ok := g.Generation(id); ok || n != 0 {
				t.Errorf("%s: Generation of %x: %d, %v", what, id, n, ok)
			}
			if !g.Maybe(id) || !g.Maybe(id, "a") || !g.Maybe(id, "zz", "") || g.Covered(id) {
				t.Errorf("%s: %x is covered", what, id)
			}
		}
		wantRead(t, what, g, h.made())
	}
	other := newHistory(t)
	other.commit(77, nil, "other=1")
	ids := append(h.strangers(), other.puts[0].id, other.puts[0].tree)
	check("nil", New(h.s, nil), ids)
	h.write(3)
	check("some", New(h.s, h.c), ids)
	h.write()
	check("all", New(h.s, h.c), ids)
	check("another store", New(other.s, other.c), h.of(h.all()...))
}

// P14.2: the files of a commit's tree, whatever they are.
func TestContent(t *testing.T) {
	h := newHistory(t)
	h.commit(0, nil)
	var many []string
	for i := range 64 {
		many = append(many, fmt.Sprintf("d%02d/e=%d", i, i%3))
	}
	long := strings.Join(slices.Repeat([]string{"abcdefghij012_.z"}, 6), "/")
	h.commit(0, []int{0}, many...)
	h.commit(0, []int{1}, many...)
	h.commit(0, []int{2}, long+"=x")
	h.commit(0, []int{0, 3}, "a=", "a.b=", "a_=x")
	for _, c := range []*chain.Chain{nil, h.c} {
		if c != nil {
			h.write()
		}
		g := New(h.s, c)
		for n, p := range h.puts {
			if got, ok := g.Content(p.id); !ok || !slices.Equal(got, p.files) {
				t.Errorf("of %d: %v, %v", n, got, ok)
			}
		}
		if got, ok := g.Content(h.puts[0].id); !ok || len(got) != 0 {
			t.Error(got, ok)
		}
		// Two commits of one tree are told apart.
		if h.puts[1].tree != h.puts[2].tree || !slices.Equal(g.Opened(), h.of(0, 1, 2, 3, 4, 0)) {
			t.Errorf("%x", g.Opened())
		}
	}
}

// P14.2: dates from the least to the greatest, that need not rise from a parent to a child.
func TestDate(t *testing.T) {
	dates := []int64{0, 1, 1 << 40, 255, 256, 1<<32 - 1, 1 << 32, 1<<40 - 1, 0}
	h := newHistory(t)
	for i, date := range dates {
		h.commit(date, h.all()[max(0, i-1):])
	}
	for _, covered := range [][]int{nil, {4}, {}} {
		if covered != nil {
			h.write(covered...)
		}
		g := New(h.s, h.c)
		for i, want := range dates {
			if date, ok := g.Date(h.puts[i].id); !ok || date != want {
				t.Errorf("of %d: %d, %v", i, date, ok)
			}
		}
		wantRead(t, "Date", g, h.made())
	}
}

// P14.2: whatever is covered, Parents, Content and Date answer the same.
func TestTheSameCoveredOrNot(t *testing.T) {
	h := shapes(t)
	tell := func(g *Graph) string {
		var b strings.Builder
		for _, id := range h.allIDs() {
			parents, p := g.Parents(id)
			files, f := g.Content(id)
			date, d := g.Date(id)
			fmt.Fprintln(&b, id, parents, p, files, f, date, d)
		}
		fmt.Fprintln(&b, g.Read(), g.Visits(), g.Opened(), g.Trees())
		return b.String()
	}
	want := tell(New(h.s, nil))
	for n := range h.puts {
		if got := tell(New(h.s, h.c)); got != want {
			t.Errorf("%d layers: %s, want %s", len(h.c.Sizes()), got, want)
		}
		if n%2 == 0 {
			h.write(n)
		}
	}
	h.must(h.c.Merge(4))
	h.write()
	if got := tell(New(h.s, h.c)); got != want || !New(h.s, h.c).Covered() {
		t.Errorf("all: %s, want %s", got, want)
	}
}

// line is a history of so many commits, each above the one before it.
func line(t testing.TB, n int) *history {
	h := newHistory(t)
	for i := range n {
		h.commit(int64(i), h.all()[max(0, i-1):], "a=1", fmt.Sprintf("b=%d", i%2))
	}
	return h
}

// P14.3: the generation is the row's, so MaxIndexed at most.
func TestGeneration(t *testing.T) {
	h := line(t, 300)
	h.commit(0, []int{0, 299, 3}, "a=1") // 300
	h.commit(0, []int{0, 3}, "a=1")      // 301
	h.commit(0, []int{247, 248}, "a=1")  // 302
	h.commit(0, nil)                     // 303
	wants := map[int]int{0: 1, 1: 2, 100: 101, 247: 248, 248: 249, 249: 250, 250: 250, 251: 250, 299: 250, 300: 250, 301: 5, 302: 250, 303: 1}
	check := func(what string, top int) {
		g := New(h.s, h.c)
		for at, want := range wants {
			covered := at <= top
			if !covered {
				want = 0
			}
			if n, ok := g.Generation(h.puts[at].id); ok != covered || n != want {
				t.Errorf("%s: of %d: %d, %v, want %d", what, at, n, ok, want)
			}
		}
		wantRead(t, what, g, h.made())
	}
	check("no layers", -1)
	h.write(100)
	check("a layer", 100)
	h.write(249)
	check("two layers", 249)
	h.write(299)
	check("three layers", 299)
	h.write()
	check("four layers", 303)
	h.must(h.c.Merge(4))
	check("merged", 303)
}

// P14.3: of a commit that isn't covered anything may have changed.
func TestMaybeOfWhatIsNotCovered(t *testing.T) {
	h := shapes(t)
	h.write(1)
	for what, g := range map[string]*Graph{"nil": New(h.s, nil), "some": New(h.s, h.c)} {
		for n, p := range h.puts {
			if what == "some" && n <= 1 {
				continue
			}
			for _, paths := range pathLists() {
				if !g.Maybe(p.id, paths...) {
					t.Errorf("%s: of %d, %.60q", what, n, paths)
				}
			}
		}
	}
}

// P14.3: of a covered one only what its filter doesn't leave out.
func TestMaybeOfWhatIsCovered(t *testing.T) {
	h := shapes(t)
	h.write()
	g := New(h.s, h.c)
	for n, paths := range [][]string{
		{"a", "d", "d/b"}, {"d", "d/b"}, {}, {"a", "d", "d/b", "d/e", "d/e/f"}, {"d", "d/b", "d/e", "d/e/f"}, {"q", "r", "A", ""},
		{"f1", "f4", "f8"}, {}, {"d", "d/e"}, {"d", "d/e", "d/e/f"}, {"d", "d/b"}, {"a", "d", "d/e", "d/e/f"},
	} {
		id := h.puts[n].id
		if g.Maybe(id) || g.Maybe(id, []string{}...) {
			t.Errorf("of %d, without paths: true", n)
		}
		for _, p := range paths {
			if !g.Maybe(id, p) || !g.Maybe(id, "zz", p) || !g.Maybe(id, p, "zz") || !g.Maybe(id, "", p, "zz", "A") {
				t.Errorf("of %d, %s: false", n, p)
			}
		}
	}
	// Without a changed path no bit is 1.
	for _, n := range []int{2, 7} {
		if g.Maybe(h.puts[n].id, slices.Concat(pathLists()...)...) {
			t.Errorf("of %d, which changes nothing: true", n)
		}
	}
	wantRead(t, "Maybe", g, h.made())
}

// P14.3: a path that didn't change may be one of the filter's all the same; a text that is no path, too.
func TestMaybeByPositions(t *testing.T) {
	h := newHistory(t)
	id := h.commit(0, nil, "a=1", "d/b=2", "e=3")
	h.write()
	g, f := New(h.s, h.c), filter.Make("a", "d/b", "e")
	for _, form := range []string{"n%d", "N%d", "n//%d", "n %d", "n/%d/", "\xff%d"} {
		met := map[bool]string{}
		for i := range 3000 {
			p := fmt.Sprintf(form, i)
			want := filter.Maybe(f, p)
			met[want] = p
			if g.Maybe(id, p) != want {
				t.Fatalf("%q: %v", p, !want)
			}
		}
		if len(met) != 2 {
			t.Fatalf("%q: too few to tell much", form)
		}
		if !g.Maybe(id, met[false], met[true]) || !g.Maybe(id, met[true], met[false]) || g.Maybe(id, met[false], met[false]) {
			t.Errorf("of %q and %q", met[false], met[true])
		}
	}
}

// P14.3: with more than MaxFilterPaths changed paths nothing is left out; with just so many most is.
func TestMaybeOfManyPaths(t *testing.T) {
	for n := range 12 {
		h := newHistory(t)
		h.commit(0, nil)
		id := h.commit(0, []int{0}, files(n, "x")...)
		h.write()
		g, maybe := New(h.s, h.c), 0
		for i := range 1000 {
			if g.Maybe(id, fmt.Sprint("g", i)) {
				maybe++
			}
		}
		if wide := n > 8; wide != (maybe == 1000) || !wide && maybe > 100 {
			t.Errorf("of %d changed paths: %d of 1000 others", n, maybe)
		}
		for i := range n {
			if !g.Maybe(id, fmt.Sprintf("f%x", i)) {
				t.Errorf("of %d changed paths: not of f%x", n, i)
			}
		}
		if g.Maybe(id) {
			t.Errorf("of %d changed paths: of no path", n)
		}
	}
}

// P14.3: what changes against the first parent counts, not what the others have.
func TestMaybeOfAMerge(t *testing.T) {
	h := newHistory(t)
	h.commit(0, nil, "a=1")
	h.commit(0, []int{0}, "a=1", "b=1")
	h.commit(0, []int{0}, "a=1", "c=1")
	one := h.commit(0, []int{1, 2}, "a=1", "b=1")
	two := h.commit(0, []int{2, 1}, "a=1", "b=1")
	h.write()
	g := New(h.s, h.c)
	if g.Maybe(one, "a", "b", "c") || !g.Maybe(two, "b") || !g.Maybe(two, "c") {
		t.Error(g.Maybe(one, "b"), g.Maybe(two, "b"), g.Maybe(two, "c"))
	}
}

// P14.3: all of them, or all commits of the store.
func TestCovered(t *testing.T) {
	h := shapes(t)
	h.write(3)
	g := New(h.s, h.c)
	in, out := h.of(0, 1, 2, 3), h.of(4, 5, 6, 7, 8, 9, 10, 11)
	if !g.Covered(in...) || !g.Covered(in[0], in[0]) || g.Covered(out...) || g.Covered() || g.Covered([]api.ID{}...) {
		t.Error("some")
	}
	wrong := append(slices.Clone(out), h.strangers()...)
	for _, id := range wrong {
		if g.Covered(id) || g.Covered(id, in[0]) || g.Covered(in[0], id) || g.Covered(in[0], id, in[1]) || g.Covered(append(in[:4:4], id)...) {
			t.Errorf("with %x: true", id)
		}
	}
	h.write()
	g = New(h.s, h.c)
	all := h.of(h.all()...)
	if !g.Covered() || !g.Covered([]api.ID{}...) || !g.Covered(nil...) || !g.Covered(all...) || !g.Covered(slices.Repeat(all, 3)...) {
		t.Error("all")
	}
	for _, id := range h.strangers() {
		if g.Covered(id) || g.Covered(append(slices.Clone(all), id)...) {
			t.Errorf("all, with %x: true", id)
		}
	}
	wantRead(t, "Covered", g, h.made())
	if g := New(h.s, nil); g.Covered() || g.Covered(all...) || g.Covered(all[0]) {
		t.Error("nil")
	}
}

// P14.4: each list in the order of its calls, as often as there were any.
func TestWhatWasRead(t *testing.T) {
	h := shapes(t)
	h.write(3)
	for what, c := range map[string]*chain.Chain{"nil": nil, "some": h.c} {
		g, p := New(h.s, c), h.made()
		wantRead(t, what, g, p)
		for _, n := range []int{3, 0, 3, 3, 9, 0} {
			wantParents(t, what, g, p, h.puts[n].id)
			wantRead(t, what, g, p)
		}
		for _, n := range []int{9, 9, 4, 0, 9} {
			wantContent(t, what, g, p, h.puts[n].id)
			wantRead(t, what, g, p)
		}
		for _, id := range h.allIDs() {
			wantContent(t, what, g, p, id)
			wantRead(t, what, g, p)
			wantParents(t, what, g, p, id)
			wantRead(t, what, g, p)
		}
		want := h.of(append([]int{3, 0, 3, 3, 9, 0}, h.all()...)...)
		if !slices.Equal(g.Read(), want) || g.Visits() != len(want) {
			t.Errorf("%s: %x", what, g.Read())
		}
	}
}

// P14.4: nothing but Parents and Content reads.
func TestWhatReadsNothing(t *testing.T) {
	h := shapes(t)
	h.write(3)
	g := New(h.s, h.c)
	for _, id := range h.allIDs() {
		g.Date(id)
		g.Generation(id)
		g.Maybe(id, "a", "d")
		g.Covered(id)
		g.Get(id)
		g.Files(id)
		g.Data(id)
	}
	g.Covered()
	tellCalls(g)
	h.write()
	other := New(h.s, h.c)
	other.Parents(h.puts[0].id)
	other.Content(h.puts[0].id)
	New(g.Store, h.c)
	h.must(h.c.Merge(2))
	wantRead(t, "the others", g, h.made())
	// Asking what was read reads nothing either.
	g.Parents(h.puts[3].id)
	for range 3 {
		if g.Visits() != 1 || len(g.Read()) != 1 || g.Trees() != 0 || len(g.Opened()) != 0 {
			t.Errorf("%x, %x", g.Read(), g.Opened())
		}
	}
}

// P14.4: behind Reset it is as at the beginning, but for the rows and the store.
func TestReset(t *testing.T) {
	h := shapes(t)
	h.write(3)
	g, p := New(h.s, h.c), h.made(h.from(3)...)
	reset := func() {
		g.Reset()
		p.read, p.opened = nil, nil
		wantRead(t, "Reset", g, p)
	}
	reset()
	wantAll(t, "behind Reset of nothing", g, p)
	read, opened := g.Read(), g.Opened()
	reset()
	reset()
	if !slices.Equal(read, h.of(h.all()...)) || !slices.Equal(opened, read) {
		t.Error("Reset changed what was answered")
	}
	wantParents(t, "again", g, p, h.puts[5].id)
	wantRead(t, "again", g, p)
	if !slices.Equal(read, h.of(h.all()...)) {
		t.Error("a call behind Reset changed what was answered ahead of it")
	}
	reset()
	wantContent(t, "again", g, p, h.puts[5].id)
	wantRead(t, "again", g, p)
	reset()
	h.write()
	wantAll(t, "the rows stay", g, p)
}

// Long lists of what was read.
func TestManyReads(t *testing.T) {
	h := line(t, 3)
	g, p := New(h.s, nil), h.made()
	for i := range 20000 {
		id := h.puts[i*i%3].id
		g.Parents(id)
		p.read = append(p.read, id)
		if i%3 == 0 {
			g.Content(id)
			p.opened = append(p.opened, id)
		}
	}
	wantRead(t, "many", g, p)
}

// Rule 4: two graphs of one store and one chain go their own ways.
func TestGraphsGoTheirOwnWays(t *testing.T) {
	h := shapes(t)
	h.write(3)
	one, two := New(h.s, h.c), New(h.s, h.c)
	p, q := h.made(h.from(3)...), h.made(h.from(3)...)
	wantAll(t, "one", one, p)
	wantRead(t, "two", two, q)
	wantContent(t, "two", two, q, h.puts[1].id)
	wantRead(t, "one", one, p)
	one.Reset()
	wantRead(t, "two", two, q)
	wantAll(t, "two", two, q)
}

// whole is a list with its spare room.
func whole[T any](list []T) []T { return list[:cap(list)] }

// roomy lays a list into a longer one, whose spare room has a mark in each place.
func roomy[T any](list []T, spare T) []T {
	all := slices.Repeat([]T{spare}, len(list)+64)
	copy(all, list)
	return all[:len(list)]
}

// fill writes into all of a list, and into its spare room.
func fill[T any](list []T, x T) {
	for i := range whole(list) {
		whole(list)[i] = x
	}
}

// Rule 3: answers are new memory, each list for itself.
func TestAnswersAreNew(t *testing.T) {
	h := shapes(t)
	h.write(6)
	for what, c := range map[string]*chain.Chain{"nil": nil, "some": h.c} {
		g, p := New(h.s, c), h.made()
		if c != nil {
			p = h.made(h.from(6)...)
		}
		for _, x := range h.puts {
			parents, _ := g.Parents(x.id)
			again, _ := g.Parents(x.id)
			fill(parents, 66)
			if !slices.Equal(again, x.parents) {
				t.Errorf("%s: Parents of %x share memory", what, x.id)
			}
			files, _ := g.Content(x.id)
			twice, _ := g.Content(x.id)
			fill(files, api.Entry{Path: "spoilt", Blob: 66})
			if !slices.Equal(twice, x.files) {
				t.Errorf("%s: Content of %x shares memory", what, x.id)
			}
			p.read, p.opened = append(p.read, x.id, x.id), append(p.opened, x.id, x.id)
			read, opened := g.Read(), g.Opened()
			fill(g.Read(), 66)
			fill(g.Opened(), 66)
			if !slices.Equal(read, p.read) || !slices.Equal(opened, p.opened) {
				t.Errorf("%s: Read or Opened shares memory", what)
			}
			wantRead(t, what, g, p)
		}
		// What was answered stays when more is read, and what is told of it in one list is not in the other.
		read, opened := g.Read(), g.Opened()
		was := fmt.Sprint(read, opened)
		fill(read[len(read):], 66)
		g.Parents(h.puts[0].id)
		g.Content(h.puts[1].id)
		p.read, p.opened = append(p.read, h.puts[0].id), append(p.opened, h.puts[1].id)
		g.Read()
		if fmt.Sprint(read, opened) != was {
			t.Errorf("%s: an answer has changed", what)
		}
		wantAll(t, what, g, p)
	}
	// Nor are the chain's rows what a graph leans on.
	g, p := New(h.s, h.c), h.made(h.from(6)...)
	for _, row := range h.c.Rows() {
		fill(row.Filter, 0)
	}
	wantAll(t, "the rows were spoilt", g, p)
}

// Rule 3: what is handed in is not changed, its spare room neither, and not kept.
func TestWhatIsHandedIn(t *testing.T) {
	h := shapes(t)
	h.write(3)
	g, p := New(h.s, h.c), h.made(h.from(3)...)
	for _, list := range [][]string{{}, {"zz"}, {"q", "d/b", "", "a", "d/b"}} {
		for _, id := range h.allIDs() {
			paths := roomy(list, "spare")
			was := slices.Clone(whole(paths))
			if is := g.Maybe(id, paths...); is != p.maybe(id, list) || !slices.Equal(whole(paths), was) {
				t.Errorf("Maybe of %x, %q: %v, %q", id, list, is, whole(paths))
			}
			fill(paths, "a")
		}
	}
	for _, numbers := range [][]int{{}, {3, 1, 0, 3}, {3, 9, 1}, {11}} {
		ids := roomy(h.of(numbers...), 77)
		was := slices.Clone(whole(ids))
		if is := g.Covered(ids...); is != p.allCovered(h.of(numbers...)) || !slices.Equal(whole(ids), was) {
			t.Errorf("Covered of %v: %v, %x", numbers, is, whole(ids))
		}
		fill(ids, h.puts[0].id)
	}
	wantAll(t, "behind it", g, p)
}

// The store and the chain are only asked.
func TestStoreAndChainStay(t *testing.T) {
	h := shapes(t)
	h.write(3)
	h.write(6)
	tell := func() string {
		var b strings.Builder
		for _, name := range h.d.Names() {
			file, _ := h.d.Read(name)
			fmt.Fprintln(&b, name, file)
		}
		fmt.Fprintln(&b, h.d.Writes(), h.s.Commits(), h.s.Refs(), h.s.Tags(), h.c.Names(), h.c.Sizes(), h.c.Rows())
		return b.String()
	}
	was := tell()
	g := wantNew(t, "two layers", h.s, h.c, h.made(h.from(6)...))
	g.Reset()
	if tell() != was {
		t.Error("something has changed")
	}
}

// Rule 2: no paths and no ids may be nil or empty.
func TestEmptyOrNil(t *testing.T) {
	h := shapes(t)
	h.write(3)
	g := New(h.s, h.c)
	for _, paths := range [][]string{nil, {}, make([]string, 3)[:0]} {
		if g.Maybe(h.puts[0].id, paths...) || !g.Maybe(h.puts[9].id, paths...) {
			t.Error("Maybe", paths == nil)
		}
	}
	for _, ids := range [][]api.ID{nil, {}, h.of(0, 1)[:0]} {
		if g.Covered(ids...) {
			t.Error("Covered of some", ids == nil)
		}
	}
	h.write()
	g = New(h.s, h.c)
	for _, ids := range [][]api.ID{nil, {}, {0, 5}} {
		if !g.Covered(ids[:0]...) {
			t.Error("Covered of all", ids == nil)
		}
	}
}

// P0.1: whatever befalls the layers, a graph of what is opened anew answers as the commits say.
func TestSpoiltLayers(t *testing.T) {
	h := shapes(t)
	for _, n := range []int{0, 3, 6} {
		h.write(n)
	}
	names := h.c.Names()
	for at, covered := range [][]int{{}, h.from(0), h.from(3)} {
		d := h.d
		h.d = d.Clone()
		h.must(h.d.Spoil(names[at], 30, 4))
		h.open()
		wantNew(t, "spoilt "+names[at], h.s, h.c, h.made(covered...))
		h.d = d
	}
	h.open()
	h.must(h.d.Spoil("chain", 6, 1))
	h.open()
	wantNew(t, "spoilt chain", h.s, h.c, h.made())
}

// P0.1, P0.3: the power goes off at each raw write of a call, while a graph is there and behind it.
func TestThePowerGoesOff(t *testing.T) {
	h := shapes(t)
	h.write(0)
	h.write(3)
	first, covered := h.d, h.from(3)
	for after := range 5 {
		h.d = first.Clone()
		h.open()
		g, p := New(h.s, h.c), h.made(covered...)
		h.must(h.d.Cut(after, 10))
		// Five raw writes: the layer's file, the two of the swap, and two that go.
		if e := h.c.Merge(2); e != api.ErrDead {
			t.Fatal(after, e)
		}
		wantAll(t, fmt.Sprint("dead behind ", after), g, p)
		if id, e := g.Blob([]byte("new")); e != api.ErrDead || id != 0 {
			t.Error(id, e)
		}
		wantRead(t, "the store's error", g, p)
		h.d.Restart()
		h.open()
		wantNew(t, fmt.Sprint("restarted behind ", after), h.s, h.c, h.made(covered...))
	}
}

func pick[T any](r *rand.Rand, list []T) T { return list[r.Intn(len(list))] }

// grow puts a commit above some that are there.
func (h *history) grow(r *rand.Rand) {
	parents := r.Perm(len(h.puts))
	parents = parents[:min(len(parents), pick(r, []int{0, 1, 1, 1, 1, 2, 2, 3, 8}))]
	var list []string
	for _, p := range []string{"a", "b", "d/b/c", "d/e/f", "f0", "f8", "p", "q", "r/s", "t", "u", "zz"} {
		if r.Intn(3) > 0 {
			list = append(list, fmt.Sprintf("%s=%d", p, r.Intn(3)))
		}
	}
	h.commit(r.Int63n(1<<40+1), parents, list[:r.Intn(len(list)+1)]...)
}

// befall writes, merges, drops or spoils layers; the store is opened anew where it must be.
func (h *history) befall(r *rand.Rand) {
	switch r.Intn(8) {
	case 0:
		h.c.Merge(r.Intn(4))
	case 1:
		h.c.Drop(r.Intn(3))
	case 2:
		h.write()
	case 3:
		if names := h.c.Names(); len(names) > 0 {
			h.must(h.d.Spoil(pick(r, names), r.Intn(12), 1))
			h.open()
		}
	default:
		h.c.Write(pick(r, h.puts).id)
	}
}

// coveredNow is the numbers of the commits that a chain tells now.
func (h *history) coveredNow() []int {
	var numbers []int
	for n, p := range h.puts {
		if _, covered := h.c.Place(p.id); covered {
			numbers = append(numbers, n)
		}
	}
	return numbers
}

// P14.1 to P14.4: random histories and chains, and graphs of all ages, asked in any order, against the words of the chapter.
func TestRandomCalls(t *testing.T) {
	r := rand.New(rand.NewSource(14))
	count := map[string]int{}
	for range 30 {
		h := newHistory(t)
		var graphs []*Graph
		var plains []*plain
		for range 40 {
			if r.Intn(2) > 0 || len(h.puts) == 0 {
				h.grow(r)
			}
			before := h.s
			h.befall(r)
			if h.s != before {
				// A graph of a store that isn't the one that is put to goes no further.
				graphs, plains = nil, nil
			}
			if c := h.c; r.Intn(3) > 0 || len(graphs) == 0 {
				p := h.made(h.coveredNow()...)
				if r.Intn(6) == 0 {
					c, p = nil, h.made()
				}
				graphs, plains = append(graphs, New(h.s, c)), append(plains, p)
			}
			for range 30 {
				at := r.Intn(len(graphs))
				count[askAny(t, r, graphs[at], plains[at])]++
			}
			if t.Failed() {
				t.FailNow()
			}
		}
	}
	for _, what := range []string{"read", "missed", "covered", "not covered", "all covered", "maybe", "surely not", "reset"} {
		if count[what] < 100 {
			t.Error("met too seldom to tell much:", count)
		}
	}
}

// askAny makes one call of a graph, and tells of what kind its answer is.
func askAny(t testing.TB, r *rand.Rand, g *Graph, p *plain) string {
	t.Helper()
	id := pick(r, p.h.puts).id
	if r.Intn(8) == 0 {
		id = pick(r, p.h.strangers())
	}
	_, is := p.h.find(id)
	defer wantRead(t, "any", g, p)
	switch r.Intn(7) {
	case 0:
		wantParents(t, "any", g, p, id)
	case 1:
		wantContent(t, "any", g, p, id)
	case 2:
		wantDate(t, "any", g, p, id)
	case 3:
		want, covered := p.h.generations()[id], p.isCovered(id)
		if n, ok := g.Generation(id); ok != covered || covered && n != want || !covered && n != 0 {
			t.Errorf("Generation of %x: %d, %v, want %d, %v", id, n, ok, want, covered)
		}
		return map[bool]string{true: "covered", false: "not covered"}[covered]
	case 4:
		paths := pick(r, pathLists())
		want := p.maybe(id, paths)
		if is := g.Maybe(id, paths...); is != want {
			t.Errorf("Maybe of %x, %.60q: %v", id, paths, is)
		}
		return map[bool]string{true: "maybe", false: "surely not"}[want]
	case 5:
		var ids []api.ID
		for range r.Intn(4) {
			ids = append(ids, pick(r, p.h.puts).id)
		}
		want := p.allCovered(ids)
		if is := g.Covered(ids...); is != want {
			t.Errorf("Covered of %x: %v", ids, is)
		}
		return map[bool]string{true: "all covered", false: "not covered"}[want]
	default:
		if r.Intn(4) == 0 {
			g.Reset()
			p.read, p.opened = nil, nil
		}
		return "reset"
	}
	return map[bool]string{true: "read", false: "missed"}[is]
}

// The ways that the chapter asks for: the store is embedded, and its calls are promoted, not written anew.
func TestEmbedding(t *testing.T) {
	field, ok := reflect.TypeFor[Graph]().FieldByName("Store")
	if !ok || !field.Anonymous || field.Type != reflect.TypeFor[*store.Store]() {
		t.Error("the store isn't embedded")
	}
	for _, name := range []string{"Maybe", "Covered"} {
		if m, ok := reflect.TypeFor[*Graph]().MethodByName(name); !ok || !m.Type.IsVariadic() {
			t.Error(name, "isn't variadic")
		}
	}
}
