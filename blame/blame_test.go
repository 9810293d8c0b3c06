package blame

import (
	"fmt"
	"math"
	"math/rand"
	"reflect"
	"slices"
	"strings"
	"testing"

	"forebear/api"
	"forebear/chain"
	"forebear/disk"
	"forebear/graph"
	"forebear/store"
)

// texts are the files of a commit: by path what is in them.
type texts map[string]string

// node is a commit to be put: the numbers of its parents, and its files.
type node struct {
	parents []int
	files   texts
}

// put is a commit as the tests put it: what is answered is held against it, not against what the store tells.
type put struct {
	node
	id, tree api.ID
}

// history is a disk with a store and a chain, and its commits in the order in which they were put; a commit's number is its place there, so that its parents' are below it.
type history struct {
	t     testing.TB
	d     *disk.Disk
	s     *store.Store
	c     *chain.Chain
	blobs map[string]api.ID
	trees map[string]api.ID
	puts  []put
	// A commit's Date, by its number.
	date func(n int) int64
	// What the plain evaluator has found of two texts.
	pairs map[[2]string]map[int]int
}

func newHistory(t testing.TB, nodes ...node) *history {
	t.Helper()
	h := &history{t: t, d: disk.New(), blobs: map[string]api.ID{}, trees: map[string]api.ID{}, pairs: map[[2]string]map[int]int{}}
	h.date = func(n int) int64 { return int64(n * 7 % 5) }
	h.open()
	for _, n := range nodes {
		h.commit(n.files, n.parents...)
	}
	return h
}

// open opens store and chain anew.
func (h *history) open() {
	h.t.Helper()
	var e api.Errno
	h.s, e = store.Open(h.d)
	h.must(e)
	h.c, e = chain.Open(h.d, h.s)
	h.must(e)
}

func (h *history) must(e api.Errno) {
	h.t.Helper()
	if e != api.OK {
		h.t.Fatal(e)
	}
}

func (h *history) blob(data string) api.ID {
	h.t.Helper()
	if _, there := h.blobs[data]; !there {
		id, e := h.s.Blob([]byte(data))
		h.must(e)
		h.blobs[data] = id
	}
	return h.blobs[data]
}

func (h *history) tree(files texts) api.ID {
	h.t.Helper()
	key := fmt.Sprintf("%q", files)
	if _, there := h.trees[key]; !there {
		var entries []api.Entry
		for _, p := range rising(files) {
			entries = append(entries, api.Entry{Path: p, Blob: h.blob(files[p])})
		}
		id, e := h.s.Tree(entries...)
		h.must(e)
		h.trees[key] = id
	}
	return h.trees[key]
}

func rising(files texts) []string {
	var list []string
	for p := range files {
		list = append(list, p)
	}
	slices.Sort(list)
	return list
}

// tryCommit puts one above those of these numbers; its note makes it unlike the others.
func (h *history) tryCommit(files texts, parents ...int) api.Errno {
	h.t.Helper()
	p := put{node: node{slices.Clone(parents), files}, tree: h.tree(files)}
	n := len(h.puts)
	var e api.Errno
	p.id, e = h.s.Commit(api.Commit{Tree: p.tree, Parents: h.of(parents...), Date: h.date(n), Note: fmt.Sprint(n)})
	if e == api.OK {
		h.puts = append(h.puts, p)
	}
	return e
}

func (h *history) commit(files texts, parents ...int) int {
	h.t.Helper()
	h.must(h.tryCommit(files, parents...))
	return len(h.puts) - 1
}

// of is the IDs of the commits of these numbers.
func (h *history) of(numbers ...int) []api.ID {
	var ids []api.ID
	for _, n := range numbers {
		ids = append(ids, h.puts[n].id)
	}
	return ids
}

func (h *history) number(id api.ID) int {
	return slices.IndexFunc(h.puts, func(p put) bool { return p.id == id })
}

// write lays a layer of the commits of these numbers and their ancestors; without numbers of all.
func (h *history) write(numbers ...int) {
	h.t.Helper()
	h.must(h.c.Write(h.of(numbers...)...))
}

// covers makes a graph whose chain covers the commits of these numbers and their ancestors; without numbers all.
func (h *history) covers(numbers ...int) *graph.Graph {
	h.t.Helper()
	for range h.c.Names() {
		h.must(h.c.Drop(1))
	}
	h.write(numbers...)
	return graph.New(h.s, h.c)
}

// views are graphs of a history: without a chain, and of chains that cover none, some and all commits.
func (h *history) views() map[string]*graph.Graph {
	h.t.Helper()
	last := len(h.puts) - 1
	all := map[string]*graph.Graph{"nil": graph.New(h.s, nil), "none": graph.New(h.s, h.c)}
	all["a root"] = h.covers(0)
	all["some"] = h.covers(last/2, last/3)
	all["most"] = h.covers(max(0, last-1))
	// Covered by several layers, of which each stands on the other.
	h.must(h.c.Drop(1))
	h.write(last / 3)
	h.write(last / 2)
	all["two layers"] = graph.New(h.s, h.c)
	h.write()
	all["all, layers"] = graph.New(h.s, h.c)
	all["all"] = h.covers()
	return all
}

// few are the most unlike of views.
func (h *history) few() map[string]*graph.Graph {
	h.t.Helper()
	return map[string]*graph.Graph{"nil": graph.New(h.s, nil), "some": h.covers(len(h.puts) / 2), "all": h.covers()}
}

// strangers are IDs of no commit: of trees and blobs, of nothing, and such as are near to those of commits.
func (h *history) strangers() []api.ID {
	ids := []api.ID{0, 1, 5, 1 << 63, math.MaxUint64, h.blob("x\n"), h.tree(nil)}
	for _, p := range h.puts[:min(3, len(h.puts))] {
		ids = append(ids, p.tree, p.id+1, p.id-1, ^p.id)
	}
	return slices.DeleteFunc(ids, func(id api.ID) bool { return h.number(id) >= 0 })
}

// words makes a text of words: each is a line.
func words(s string) string {
	var b strings.Builder
	for _, word := range strings.Fields(s) {
		b.WriteString(word + "\n")
	}
	return b.String()
}

// row is a text of so many unlike lines, whose numbers begin with from.
func row(n, from int) string {
	var b strings.Builder
	for k := range n {
		fmt.Fprintln(&b, from+k)
	}
	return b.String()
}

// spot is a line, by its commit's number.
type spot struct {
	n    int
	path string
	line int
}

func (h *history) line(s spot) Line { return Line{Commit: h.puts[s.n].id, Path: s.path, Line: s.line} }

func (h *history) lines(spots []spot) []Line {
	var list []Line
	for _, s := range spots {
		list = append(list, h.line(s))
	}
	return list
}

func (h *history) spot(l Line) spot { return spot{h.number(l.Commit), l.Path, l.Line} }

func (h *history) spots(lines []Line) []spot {
	var list []spot
	for _, l := range lines {
		list = append(list, h.spot(l))
	}
	return list
}

// cut is the lines of a text, by the words of chapter 4.
func cut(s string) []string {
	var lines []string
	begin := 0
	for at := range len(s) {
		if s[at] == 10 {
			lines = append(lines, s[begin:at+1])
			begin = at + 1
		}
	}
	if begin < len(s) {
		lines = append(lines, s[begin:])
	}
	return lines
}

// bytes of a line.
func (h *history) bytes(s spot) string { return cut(h.puts[s.n].files[s.path])[s.line] }

// paired tells of each line of b that is paired which line of a it is, by the words of chapter 5: of none, if one of them is too long.
func (h *history) paired(a, b string) map[int]int {
	key := [2]string{a, b}
	if known, there := h.pairs[key]; there {
		return known
	}
	h.pairs[key] = pair(cut(a), cut(b))
	return h.pairs[key]
}

func pair(a, b []string) map[int]int {
	pairs := map[int]int{}
	if len(a) > 256 || len(b) > 256 {
		return pairs
	}
	// What is behind the last place of a list is 0, as nothing is there.
	longest := map[[2]int]int{}
	for i := len(a) - 1; i >= 0; i-- {
		for j := len(b) - 1; j >= 0; j-- {
			best := max(longest[[2]int{i + 1, j}], longest[[2]int{i, j + 1}])
			if a[i] == b[j] {
				best = max(best, 1+longest[[2]int{i + 1, j + 1}])
			}
			longest[[2]int{i, j}] = best
		}
	}
	i, j := 0, 0
	for i < len(a) && j < len(b) {
		if a[i] == b[j] {
			pairs[j] = i
			i, j = i+1, j+1
		} else if longest[[2]int{i + 1, j}] >= longest[[2]int{i, j + 1}] {
			i++
		} else {
			j++
		}
	}
	return pairs
}

// origin: by the words of chapter 10.
func origin(was, now texts, p string) (string, bool) {
	if _, there := now[p]; !there {
		return "", false
	}
	if _, there := was[p]; there {
		return p, true
	}
	taken := map[string]string{}
	for _, to := range rising(now) {
		if _, there := was[to]; there {
			continue
		}
		for _, from := range rising(was) {
			_, stays := now[from]
			_, gone := taken[from]
			if !stays && !gone && was[from] == now[to] {
				taken[from] = to
				if to == p {
					return from, true
				}
				break
			}
		}
	}
	return "", false
}

// passed is where a line is passed to, by the words of the chapter, and to which parent, by its place among them.
func (h *history) passed(s spot) (spot, int, bool) {
	c := h.puts[s.n]
	for k, parent := range c.parents {
		was := h.puts[parent].files
		q, there := origin(was, c.files, s.path)
		if !there {
			continue
		}
		if line, is := h.paired(was[q], c.files[s.path])[s.line]; is {
			return spot{parent, q, line}, k, true
		}
	}
	return spot{}, 0, false
}

// way is a line, and all that it is passed to in turn: the last of them is what it comes from.
func (h *history) way(s spot) []spot {
	list := []spot{s}
	for {
		next, _, is := h.passed(list[len(list)-1])
		if !is {
			return list
		}
		list = append(list, next)
	}
}

// want is what Lines has to tell.
func (h *history) want(n int, p string) []spot {
	var list []spot
	for line := range cut(h.puts[n].files[p]) {
		way := h.way(spot{n, p, line})
		list = append(list, way[len(way)-1])
	}
	return list
}

// ask is Lines of a file that is there.
func (h *history) ask(g *graph.Graph, n int, p string) []Line {
	h.t.Helper()
	lines, e := Lines(g, h.puts[n].id, p)
	if e != api.OK {
		h.t.Errorf("%d %s: %v", n, p, e)
	}
	return lines
}

// wantLines: P19.1.
func wantLines(t testing.TB, what string, g *graph.Graph, h *history, n int, p string) {
	t.Helper()
	g.Reset()
	defer g.Reset()
	if len(cut(h.puts[n].files[p])) > 256 {
		if lines, e := Lines(g, h.puts[n].id, p); len(lines) != 0 || e != api.ErrLong {
			t.Errorf("%s: %d %s: %v, %v, want ErrLong", what, n, p, h.spots(lines), e)
		}
		return
	}
	if got, want := h.spots(h.ask(g, n, p)), h.want(n, p); !slices.Equal(got, want) {
		t.Errorf("%s: %d %s: %v, want %v", what, n, p, got, want)
	}
	wantReads(t, what, g, h, n, p)
}

// wantReads: the files of a commit are read for the sake of a line that comes to it only if its filter doesn't say that the file is the same; then its own, and those of its parents as far as they are asked.
func wantReads(t testing.TB, what string, g *graph.Graph, h *history, n int, p string) {
	t.Helper()
	read, opened := map[int]bool{}, map[int]bool{}
	for line := range cut(h.puts[n].files[p]) {
		for _, s := range h.way(spot{n, p, line}) {
			read[s.n] = true
			if !g.Maybe(h.puts[s.n].id, s.path) {
				continue
			}
			opened[s.n] = true
			parents := h.puts[s.n].parents
			if _, k, is := h.passed(s); is {
				parents = parents[:k+1]
			}
			for _, parent := range parents {
				opened[parent] = true
			}
		}
	}
	for _, id := range g.Read() {
		if !read[h.number(id)] {
			t.Errorf("%s: %d %s reads the parents of %d", what, n, p, h.number(id))
		}
	}
	for _, id := range g.Opened() {
		if !opened[h.number(id)] {
			t.Errorf("%s: %d %s reads the files of %d", what, n, p, h.number(id))
		}
	}
}

// some are places of lines of a file of so many: of a long one not all, as a Step makes a match.
func some(lines int) []int {
	var list []int
	for line := range lines {
		if lines <= 64 || line < 2 || line%60 == 0 || line > lines-3 {
			list = append(list, line)
		}
	}
	return list
}

// wantSteps: P19.2, P19.4, of the lines of a file.
func wantSteps(t testing.TB, what string, g *graph.Graph, h *history, n int, p string) {
	t.Helper()
	lines, _ := Lines(g, h.puts[n].id, p)
	all := cut(h.puts[n].files[p])
	for _, line := range some(len(all)) {
		at := h.line(spot{n, p, line})
		for _, want := range h.way(spot{n, p, line})[1:] {
			to, passed, e := Step(g, at)
			if e != api.OK || !passed || to != h.line(want) {
				t.Errorf("%s: from %v: %v, %v, %v, want %v", what, h.spot(at), h.spot(to), passed, e, want)
				return
			}
			at = to
		}
		if to, passed, e := Step(g, at); e != api.OK || passed || to != (Line{}) {
			t.Errorf("%s: from %v: %v, %v, %v, want none", what, h.spot(at), h.spot(to), passed, e)
		}
		if len(lines) > 0 && lines[line] != at {
			t.Errorf("%s: the Steps from %v lead to %v, Lines to %v", what, spot{n, p, line}, h.spot(at), h.spot(lines[line]))
		}
		if h.bytes(h.spot(at)) != all[line] {
			t.Errorf("%s: %q comes from %q", what, all[line], h.bytes(h.spot(at)))
		}
	}
}

// wantEach asks of each file of each commit.
func wantEach(t testing.TB, what string, g *graph.Graph, h *history) {
	t.Helper()
	for n := range h.puts {
		for _, p := range rising(h.puts[n].files) {
			wantLines(t, what, g, h, n, p)
			wantSteps(t, what, g, h, n, p)
		}
	}
}

// handed is a case whose answer is told by hand, not by the plain evaluator.
type handed struct {
	n    int
	path string
	want []spot
}

func wantByHand(t *testing.T, h *history, cases ...handed) {
	t.Helper()
	for what, g := range h.views() {
		for _, c := range cases {
			if got := h.spots(h.ask(g, c.n, c.path)); !slices.Equal(got, c.want) {
				t.Errorf("%s: %d %s: %v, want %v", what, c.n, c.path, got, c.want)
			}
		}
		wantEach(t, what, g, h)
	}
}

// The chapter's example, with a commit for each of the two: what is moved has all its bytes (chapter 10).
func TestExample(t *testing.T) {
	h := newHistory(t,
		node{nil, texts{"f": words("a b")}},        // 0
		node{[]int{0}, texts{"g": words("a b")}},   // 1: moved
		node{[]int{1}, texts{"g": words("a c b")}}, // 2: a line added
	)
	wantByHand(t, h,
		handed{0, "f", []spot{{0, "f", 0}, {0, "f", 1}}},
		handed{1, "g", []spot{{0, "f", 0}, {0, "f", 1}}},
		handed{2, "g", []spot{{0, "f", 0}, {2, "g", 1}, {0, "f", 1}}},
	)
	lines := h.ask(graph.New(h.s, nil), 2, "g")
	want := []Part{{0, 0, h.line(spot{0, "f", 0})}, {1, 1, h.line(spot{2, "g", 1})}, {2, 2, h.line(spot{0, "f", 1})}}
	if parts := Parts(lines...); !slices.Equal(parts, want) {
		t.Error(parts)
	}
}

// P19.1, P19.2: a root, a line of commits, and one whose file is the same as before.
func TestLineOfCommits(t *testing.T) {
	h := newHistory(t,
		node{nil, texts{"f": words("a b c"), "k": words("a")}},       // 0
		node{[]int{0}, texts{"f": words("a x b c")}},                 // 1: x comes
		node{[]int{1}, texts{"f": words("a x b c"), "o": words("")}}, // 2: the same
		node{[]int{2}, texts{"f": words("x b c")}},                   // 3: a goes
		node{[]int{3}, texts{"f": words("a x b c")}},                 // 4: and comes again
		node{[]int{4}, texts{"f": words("a b x c d")}},               // 5: x and b change places
		node{[]int{5}, texts{"f": words("q r s")}},                   // 6: all is new
	)
	wantByHand(t, h,
		handed{0, "f", []spot{{0, "f", 0}, {0, "f", 1}, {0, "f", 2}}},
		handed{0, "k", []spot{{0, "k", 0}}},
		handed{1, "f", []spot{{0, "f", 0}, {1, "f", 1}, {0, "f", 1}, {0, "f", 2}}},
		handed{2, "f", []spot{{0, "f", 0}, {1, "f", 1}, {0, "f", 1}, {0, "f", 2}}},
		handed{2, "o", nil},
		handed{3, "f", []spot{{1, "f", 1}, {0, "f", 1}, {0, "f", 2}}},
		handed{4, "f", []spot{{4, "f", 0}, {1, "f", 1}, {0, "f", 1}, {0, "f", 2}}},
		// The match of a x b c and a b x c d leaves the first one's x away (chapter 5).
		handed{5, "f", []spot{{4, "f", 0}, {0, "f", 1}, {5, "f", 2}, {0, "f", 2}, {5, "f", 4}}},
		handed{6, "f", []spot{{6, "f", 0}, {6, "f", 1}, {6, "f", 2}}},
	)
}

// P19.1, P19.2: of several parents that could each be passed a line the first one is, in the order of Parents; a line may be passed to the second or the last alone, and to none.
func TestSeveralParents(t *testing.T) {
	h := newHistory(t,
		node{nil, texts{"f": words("a")}},                  // 0
		node{nil, texts{"f": words("a b")}},                // 1
		node{nil, texts{"f": words("a b c")}},              // 2
		node{[]int{0, 1}, texts{"f": words("a b")}},        // 3: a from the first, b from the second alone
		node{[]int{1, 0}, texts{"f": words("a b")}},        // 4: both from the first
		node{[]int{2, 1, 0}, texts{"f": words("a b c")}},   // 5: all from the first
		node{[]int{0, 1, 2}, texts{"f": words("a b c d")}}, // 6: one from each, d from none
		node{[]int{0, 2, 1}, texts{"f": words("c b a")}},   // 7
		node{nil, texts{"g": words("a b c")}},              // 8: without f
		node{[]int{8, 1}, texts{"f": words("a b")}},        // 9: the first has no such file
		node{[]int{8, 1}, texts{"f": words("a b c")}},      // 10: the first is renamed, as its bytes are the same
		node{nil, nil}, // 11: without files
		node{[]int{11, 8, 2}, texts{"f": words("c")}},                 // 12
		node{[]int{11, 8}, texts{"f": words("c")}},                    // 13: to none
		node{[]int{0, 1, 2, 3, 4, 5, 6, 7}, texts{"f": words("d c")}}, // 14: MaxParents
	)
	wantByHand(t, h,
		handed{3, "f", []spot{{0, "f", 0}, {1, "f", 1}}},
		handed{4, "f", []spot{{1, "f", 0}, {1, "f", 1}}},
		handed{5, "f", []spot{{2, "f", 0}, {2, "f", 1}, {2, "f", 2}}},
		handed{6, "f", []spot{{0, "f", 0}, {1, "f", 1}, {2, "f", 2}, {6, "f", 3}}},
		handed{7, "f", []spot{{2, "f", 2}, {1, "f", 1}, {0, "f", 0}}},
		handed{9, "f", []spot{{1, "f", 0}, {1, "f", 1}}},
		handed{10, "f", []spot{{8, "g", 0}, {8, "g", 1}, {8, "g", 2}}},
		handed{12, "f", []spot{{2, "f", 2}}},
		handed{13, "f", []spot{{13, "f", 0}}},
		handed{14, "f", []spot{{6, "f", 3}, {2, "f", 2}}},
	)
}

// P19.1: a line that goes by two ways to two commits goes the first one; lines that part at a merge and meet again below it.
func TestTwoWays(t *testing.T) {
	h := newHistory(t,
		node{nil, texts{"f": words("a b")}},                // 0
		node{[]int{0}, texts{"f": words("b")}},             // 1: a goes
		node{[]int{1}, texts{"f": words("a b")}},           // 2: and comes again
		node{[]int{0}, texts{"f": words("a x")}},           // 3: b goes, x comes
		node{[]int{2, 3}, texts{"f": words("a x b")}},      // 4: a from 2 or from 0
		node{[]int{3, 2}, texts{"f": words("a x b")}},      // 5: the other way round
		node{[]int{4, 5}, texts{"f": words("a x b")}},      // 6
		node{[]int{5, 4}, texts{"f": words("b x a")}},      // 7
		node{[]int{7, 6, 0}, texts{"f": words("a b a x")}}, // 8
	)
	wantByHand(t, h,
		handed{4, "f", []spot{{2, "f", 0}, {3, "f", 1}, {0, "f", 1}}},
		handed{5, "f", []spot{{0, "f", 0}, {3, "f", 1}, {0, "f", 1}}},
		handed{6, "f", []spot{{2, "f", 0}, {3, "f", 1}, {0, "f", 1}}},
		// Of a x b and b x a the match pairs the first one's b alone: all its others are left away on the way to it. Then 4 is asked, alike.
		handed{7, "f", []spot{{0, "f", 1}, {7, "f", 1}, {7, "f", 2}}},
		// The match with 7 leaves its x away for the a behind it, the one with 6 for the b.
		handed{8, "f", []spot{{2, "f", 0}, {0, "f", 1}, {7, "f", 2}, {8, "f", 3}}},
	)
}

// P19.1, P19.2: equal lines several times in one file are told apart by the match.
func TestEqualLines(t *testing.T) {
	h := newHistory(t,
		node{nil, texts{"f": words("a a")}},             // 0
		node{[]int{0}, texts{"f": words("a a a")}},      // 1: the last one is new
		node{[]int{1}, texts{"f": words("a a")}},        // 2: the last one goes
		node{[]int{0}, texts{"f": words("b a a")}},      // 3
		node{[]int{3}, texts{"f": words("a b a b a")}},  // 4
		node{[]int{4}, texts{"f": words("a a a b b")}},  // 5
		node{[]int{2, 5}, texts{"f": words("a a a a")}}, // 6
		node{nil, texts{"f": "\n\n\n"}},                 // 7: empty lines
		node{[]int{7}, texts{"f": "\n\n"}},              // 8
		node{[]int{8}, texts{"f": "\na\n\n\n"}},         // 9
	)
	wantByHand(t, h,
		handed{1, "f", []spot{{0, "f", 0}, {0, "f", 1}, {1, "f", 2}}},
		handed{2, "f", []spot{{0, "f", 0}, {0, "f", 1}}},
		handed{3, "f", []spot{{3, "f", 0}, {0, "f", 0}, {0, "f", 1}}},
		handed{4, "f", []spot{{4, "f", 0}, {3, "f", 0}, {0, "f", 0}, {4, "f", 3}, {0, "f", 1}}},
		handed{6, "f", []spot{{0, "f", 0}, {0, "f", 1}, {0, "f", 1}, {6, "f", 3}}},
		handed{8, "f", []spot{{7, "f", 0}, {7, "f", 1}}},
		handed{9, "f", []spot{{7, "f", 0}, {9, "f", 1}, {7, "f", 1}, {9, "f", 3}}},
	)
}

// P19.1: the last line may have no line end, and is then another line than the one with it; a file may have no lines.
func TestLastLines(t *testing.T) {
	h := newHistory(t,
		node{nil, texts{"f": "a\nb"}},                     // 0
		node{[]int{0}, texts{"f": "a\nb\n"}},              // 1: b is another line
		node{[]int{1}, texts{"f": "a\nb\nc"}},             // 2
		node{[]int{2}, texts{"f": "c"}},                   // 3
		node{[]int{3}, texts{"f": ""}},                    // 4: no lines
		node{[]int{4}, texts{"f": "c"}},                   // 5
		node{[]int{5}, texts{"f": "\n"}},                  // 6
		node{[]int{6}, texts{"f": "\n\n"}},                // 7
		node{[]int{7}, texts{"g": "", "h": "\x00\r"}},     // 8
		node{[]int{8}, texts{"e": "", "h": "\x00\r\n\r"}}, // 9: one without lines is moved
	)
	wantByHand(t, h,
		handed{0, "f", []spot{{0, "f", 0}, {0, "f", 1}}},
		handed{1, "f", []spot{{0, "f", 0}, {1, "f", 1}}},
		handed{2, "f", []spot{{0, "f", 0}, {1, "f", 1}, {2, "f", 2}}},
		handed{3, "f", []spot{{2, "f", 2}}},
		handed{4, "f", nil},
		handed{5, "f", []spot{{5, "f", 0}}},
		handed{6, "f", []spot{{6, "f", 0}}},
		handed{7, "f", []spot{{6, "f", 0}, {7, "f", 1}}},
		handed{8, "g", nil},
		handed{8, "h", []spot{{8, "h", 0}}},
		handed{9, "e", nil},
		handed{9, "h", []spot{{9, "h", 0}, {9, "h", 1}}},
	)
}

// P19.1, P19.2: a file that was renamed, several at once with the same bytes, one that was renamed and changed, one that was removed and put anew, two that took each other's names, and one that was copied.
func TestRenames(t *testing.T) {
	ab, cd := words("a b"), words("c d")
	h := newHistory(t,
		node{nil, texts{"f": ab, "k": cd}},                                             // 0
		node{[]int{0}, texts{"d/e/f": ab, "k": cd}},                                    // 1: f is d/e/f
		node{[]int{1}, texts{"d/e/f": words("a x b"), "k": cd}},                        // 2
		node{[]int{2}, texts{"a": words("a x b"), "z": cd}},                            // 3: both are elsewhere
		node{[]int{0}, texts{"g": words("a b x"), "k": cd}},                            // 4: renamed and changed: all is new
		node{[]int{0}, texts{"k": cd}},                                                 // 5: removed
		node{[]int{5}, texts{"f": ab, "k": cd}},                                        // 6: and put anew
		node{[]int{6}, texts{"f": cd, "k": ab}},                                        // 7: each is where the other one was: no path is new
		node{[]int{0}, texts{"f": ab, "g": ab, "k": cd}},                               // 8: copied: g is new, as f stays
		node{nil, texts{"p": ab, "q": ab, "r": ab}},                                    // 9: three alike
		node{[]int{9}, texts{"x": ab, "y": ab, "z": ab}},                               // 10: the least takes the least
		node{[]int{9}, texts{"a": ab, "q": ab, "x": ab}},                               // 11: q stays
		node{[]int{9}, texts{"a": ab}},                                                 // 12: the others are gone
		node{[]int{12}, texts{"b": ab, "c": ab}},                                       // 13: one comes from a, one is new
		node{[]int{13}, texts{"b/c": ab, "c": cd}},                                     // 14: b leads to the new one
		node{[]int{13, 10, 3}, texts{"a": words("a x b"), "c": ab, "z": words("c b")}}, // 15: a has another path in each
	)
	both := func(n int, p string) []spot { return []spot{{n, p, 0}, {n, p, 1}} }
	wantByHand(t, h,
		handed{1, "d/e/f", both(0, "f")}, handed{1, "k", both(0, "k")},
		handed{2, "d/e/f", []spot{{0, "f", 0}, {2, "d/e/f", 1}, {0, "f", 1}}},
		handed{3, "a", []spot{{0, "f", 0}, {2, "d/e/f", 1}, {0, "f", 1}}}, handed{3, "z", both(0, "k")},
		handed{4, "g", []spot{{4, "g", 0}, {4, "g", 1}, {4, "g", 2}}},
		handed{6, "f", both(6, "f")},
		handed{7, "f", both(7, "f")}, handed{7, "k", both(7, "k")},
		handed{8, "f", both(0, "f")}, handed{8, "g", both(8, "g")},
		handed{10, "x", both(9, "p")}, handed{10, "y", both(9, "q")}, handed{10, "z", both(9, "r")},
		handed{11, "a", both(9, "p")}, handed{11, "q", both(9, "q")}, handed{11, "x", both(9, "r")},
		handed{12, "a", both(9, "p")},
		handed{13, "b", both(9, "p")}, handed{13, "c", both(13, "c")},
		handed{14, "b/c", both(9, "p")}, handed{14, "c", both(14, "c")},
		handed{15, "a", []spot{{0, "f", 0}, {2, "d/e/f", 1}, {0, "f", 1}}},
		handed{15, "c", both(13, "c")},
		handed{15, "z", []spot{{0, "k", 0}, {9, "r", 1}}},
	)
}

// P19.1: lines of one file come to one commit under two paths.
func TestTwoPathsOfOneCommit(t *testing.T) {
	one, two := words("a b"), words("c d")
	h := newHistory(t,
		node{nil, texts{"p": one, "q": two}},                // 0
		node{[]int{0}, texts{"f": one, "q": two}},           // 1: p is f
		node{[]int{0}, texts{"p": one, "f": two}},           // 2: q is f
		node{[]int{1, 2}, texts{"f": words("a c b d")}},     // 3: of both
		node{[]int{2, 1}, texts{"f": words("a c b d")}},     // 4
		node{[]int{3}, texts{"f": words("a c x b d")}},      // 5
		node{[]int{5, 4}, texts{"f": words("d a c x b d")}}, // 6
	)
	wantByHand(t, h,
		handed{3, "f", []spot{{0, "p", 0}, {0, "q", 0}, {0, "p", 1}, {0, "q", 1}}},
		handed{4, "f", []spot{{0, "p", 0}, {0, "q", 0}, {0, "p", 1}, {0, "q", 1}}},
		handed{5, "f", []spot{{0, "p", 0}, {0, "q", 0}, {5, "f", 2}, {0, "p", 1}, {0, "q", 1}}},
		handed{6, "f", []spot{{6, "f", 0}, {0, "p", 0}, {0, "q", 0}, {5, "f", 2}, {0, "p", 1}, {0, "q", 1}}},
	)
}

// longHistory has files of about MaxLines lines, whose last lines have line ends and none.
func longHistory(t testing.TB) *history {
	return newHistory(t,
		node{nil, texts{"f": row(255, 0), "g": row(256, 0), "h": row(257, 0)}},                  // 0
		node{[]int{0}, texts{"f": row(256, 0), "g": row(257, 0), "h": row(256, 0)}},             // 1
		node{[]int{1}, texts{"f": row(257, 0), "g": row(256, 0), "h": row(255, 0)}},             // 2
		node{[]int{2}, texts{"f": row(257, 0), "g": row(256, 0), "h": row(255, 0), "o": ""}},    // 3: all the same
		node{[]int{3, 1}, texts{"f": row(256, 0), "g": row(255, 1), "h": row(256, 0)}},          // 4: f is too long in the first parent, g in the second
		node{[]int{0}, texts{"f": row(255, 0) + "x", "g": row(256, 0) + "x", "h": row(255, 0)}}, // 5: without a line end
		node{[]int{3}, texts{"i": row(257, 0)}},                                                 // 6: one that is too long is moved
		node{[]int{0}, texts{"i": row(256, 0)}},                                                 // 7: one that isn't
		node{[]int{6}, texts{"i": row(257, 0)}},                                                 // 8: too long, and the same
		node{nil, texts{"f": strings.Repeat("\n", 4096), "g": strings.Repeat("\n", 256)}},       // 9: as many as a blob has room for
		node{[]int{9}, texts{"f": strings.Repeat("\n", 256), "g": strings.Repeat("\n", 4096)}},  // 10
	)
}

// P19.1, P19.2: files of just MaxLines lines, of one less and of one more, and such ones in a parent.
func TestMaxLines(t *testing.T) {
	if api.MaxLines != 256 {
		t.Fatal(api.MaxLines)
	}
	h := longHistory(t)
	all := func(n int, p string, lines int) []spot {
		var list []spot
		for line := range lines {
			list = append(list, spot{n, p, line})
		}
		return list
	}
	wantByHand(t, h,
		handed{0, "f", all(0, "f", 255)}, handed{0, "g", all(0, "g", 256)},
		handed{1, "f", append(all(0, "f", 255), spot{1, "f", 255})},
		handed{1, "h", all(1, "h", 256)},
		handed{2, "g", all(2, "g", 256)}, handed{2, "h", all(1, "h", 255)},
		handed{3, "g", all(2, "g", 256)},
		handed{4, "f", append(all(0, "f", 255), spot{1, "f", 255})},
		handed{4, "g", all(2, "g", 256)[1:]},
		handed{4, "h", all(1, "h", 256)},
		handed{5, "f", append(all(0, "f", 255), spot{5, "f", 255})},
		handed{7, "i", all(0, "g", 256)},
		handed{9, "g", all(9, "g", 256)}, handed{10, "f", all(10, "f", 256)},
	)
	for what, g := range h.views() {
		for _, long := range []struct {
			n    int
			path string
		}{{0, "h"}, {1, "g"}, {2, "f"}, {3, "f"}, {5, "g"}, {6, "i"}, {8, "i"}, {9, "f"}, {10, "g"}} {
			wantRefused(t, what, g, api.ErrLong, h.puts[long.n].id, long.path)
			end := len(cut(h.puts[long.n].files[long.path]))
			for _, line := range []int{0, 1, 255, 256, end - 1} {
				at := h.line(spot{long.n, long.path, line})
				if to, passed, e := Step(g, at); to != (Line{}) || passed || e != api.OK {
					t.Errorf("%s: %v: %v, %v, %v", what, h.spot(at), to, passed, e)
				}
			}
			wantNoStep(t, what, g, h.line(spot{long.n, long.path, end}))
		}
	}
}

// wantRefused: an error of Lines, nothing beside it, and nothing read.
func wantRefused(t testing.TB, what string, g *graph.Graph, want api.Errno, id api.ID, p string) {
	t.Helper()
	g.Reset()
	if lines, e := Lines(g, id, p); len(lines) != 0 || e != want {
		t.Errorf("%s: %x %q: %v, %v, want %v", what, id, p, lines, e, want)
	}
	if g.Visits() != 0 || g.Trees() != 0 {
		t.Errorf("%s: %x %q: read in spite of an error", what, id, p)
	}
}

// wantNoStep: likewise of Step, whose only error is ErrMissing.
func wantNoStep(t testing.TB, what string, g *graph.Graph, at Line) {
	t.Helper()
	g.Reset()
	if to, passed, e := Step(g, at); to != (Line{}) || passed || e != api.ErrMissing {
		t.Errorf("%s: %v: %v, %v, %v, want ErrMissing", what, at, to, passed, e)
	}
	if g.Visits() != 0 || g.Trees() != 0 {
		t.Errorf("%s: %v: read in spite of an error", what, at)
	}
}

// shapes has branches and merges, renames, files in folders, and a root without files.
func shapes(t testing.TB) *history {
	return newHistory(t,
		node{nil, texts{"a": words("a b c"), "d/x": words("1 2 3")}},                                    // 0
		node{[]int{0}, texts{"a": words("a b c"), "b": words("q"), "d/x": words("1 2 3")}},              // 1
		node{[]int{0}, texts{"a": words("a y c"), "d/x": words("1 2 3")}},                               // 2
		node{[]int{1, 2}, texts{"a": words("a y b c"), "b": words("q"), "d/x": words("1 2 3")}},         // 3
		node{[]int{2, 1}, texts{"a": words("a y c"), "d/x": words("1 2 3")}},                            // 4
		node{[]int{3}, texts{"a": words("a y b c a"), "b": words("q"), "d/y": words("1 2 3")}},          // 5
		node{[]int{4}, texts{"a": words("y c a"), "d/x": words("0 1 2 3")}},                             // 6
		node{[]int{5, 6}, texts{"a": words("a y b c a"), "b": words("q a"), "d/x": words("0 1 2 3 4")}}, // 7
		node{nil, nil},                                    // 8
		node{[]int{8}, texts{"a": "a\nb"}},                // 9
		node{[]int{8, 9}, texts{"c": words("a y b c a")}}, // 10
		node{[]int{7, 10}, texts{"a": words("a y b c a z"), "c": words("a y b c a")}},              // 11
		node{[]int{10, 7}, texts{"e/f/g/h/i/j": words("a y b c a"), "d/x": words("4")}},            // 12
		node{[]int{12, 11, 9, 0}, texts{"e": words("a y b c a"), "d": words("4"), "a": "z\na\nb"}}, // 13
		node{[]int{13}, texts{"e": words("a y b c a"), "d": words("4"), "a": "z\na\nb", "f": ""}},  // 14
	)
}

// P19.1 to P19.4: all shapes, covered or not.
func TestShapes(t *testing.T) {
	h := shapes(t)
	for what, g := range h.views() {
		wantEach(t, what, g, h)
	}
}

// P19.1, P19.2: what is told is the same covered or not.
func TestCoveredOrNot(t *testing.T) {
	for _, h := range []*history{shapes(t), longHistory(t)} {
		all := h.views()
		for n := range h.puts {
			for _, p := range rising(h.puts[n].files) {
				want, wantE := Lines(all["nil"], h.puts[n].id, p)
				for what, g := range all {
					if got, e := Lines(g, h.puts[n].id, p); !slices.Equal(got, want) || e != wantE {
						t.Errorf("%s: %d %s: %v, %v, want %v, %v", what, n, p, h.spots(got), e, h.spots(want), wantE)
					}
					for _, line := range some(len(want) + 1) {
						to, passed, e := Step(all["nil"], h.line(spot{n, p, line}))
						if got, is, e2 := Step(g, h.line(spot{n, p, line})); got != to || is != passed || e2 != e {
							t.Errorf("%s: %d %s %d: %v, %v, %v", what, n, p, line, h.spot(got), is, e2)
						}
					}
				}
			}
		}
	}
}

// noFiles are texts that are no path of a file of shapes.
func noFiles() []string {
	return []string{
		"", "/", "a/", "/a", "A", "a//b", "a b", "a\n", "a\x00", ".", "..", "../a", "*", "\xff",
		"q", "zz", "aa", "a.", "a/x", "d/", "e/f/g/h/i/j/k", "d/x/y",
		strings.Repeat("a", 16), strings.Repeat("a", 17), strings.Repeat("a/", 300), strings.Repeat("a", 1<<20),
	}
}

// P19.1, P19.2: an ID of no commit, of a tree, of a blob, and 0, whatever the path and the line.
func TestNoCommit(t *testing.T) {
	h := shapes(t)
	for what, g := range h.views() {
		for _, id := range h.strangers() {
			for _, p := range append(noFiles(), "a", "d/x", "d") {
				wantRefused(t, what, g, api.ErrMissing, id, p)
				for _, line := range []int{0, 1, -1, math.MaxInt, math.MinInt} {
					wantNoStep(t, what, g, Line{id, p, line})
				}
			}
		}
		wantNoStep(t, what, g, Line{})
	}
	empty := newHistory(t)
	for what, g := range map[string]*graph.Graph{"nil": graph.New(empty.s, nil), "none": graph.New(empty.s, empty.c)} {
		for _, id := range empty.strangers() {
			wantRefused(t, what, g, api.ErrMissing, id, "a")
			wantNoStep(t, what, g, Line{id, "a", 0})
		}
	}
}

// P19.1, P19.2: a path that is no path, one that no file has, one that only leads to files, one that another commit, a parent, or a kid alone has.
func TestNoFile(t *testing.T) {
	h := shapes(t)
	known := []string{"a", "b", "c", "d", "d/x", "d/y", "e", "e/f", "e/f/g/h/i", "e/f/g/h/i/j", "f"}
	for what, g := range h.views() {
		missing := 0
		for n := range h.puts {
			for _, p := range append(noFiles(), known...) {
				if _, there := h.puts[n].files[p]; there {
					continue
				}
				missing++
				wantRefused(t, what, g, api.ErrMissing, h.puts[n].id, p)
				for _, line := range []int{0, 1, -1, math.MaxInt, math.MinInt} {
					wantNoStep(t, what, g, h.line(spot{n, p, line}))
				}
			}
		}
		if missing < 15*26+100 {
			t.Error(missing)
		}
	}
}

// P19.2: a line that isn't there: below 0, just behind the last one, of a file without lines, the greatest and the least.
func TestNoLine(t *testing.T) {
	h := shapes(t)
	for what, g := range h.views() {
		for n := range h.puts {
			for p, data := range h.puts[n].files {
				end := len(cut(data))
				for _, line := range []int{-1, -2, -end, -end - 1, end, end + 1, end + 256, 256, 257, 1 << 31, 1 << 32, -1 << 32, math.MaxInt, math.MaxInt - 1, math.MinInt, math.MinInt + 1} {
					if line < 0 || line >= end {
						wantNoStep(t, what, g, h.line(spot{n, p, line}))
					}
				}
			}
		}
	}
}

// P19.3.
func TestParts(t *testing.T) {
	l := func(id api.ID, p string, line int) Line { return Line{id, p, line} }
	for _, c := range []struct {
		what  string
		lines []Line
		want  []Part
	}{
		{"none", nil, nil},
		{"empty", []Line{}, nil},
		{"one", []Line{l(1, "f", 7)}, []Part{{0, 0, l(1, "f", 7)}}},
		{"the zero one", []Line{{}}, []Part{{0, 0, Line{}}}},
		{"rises by one", []Line{l(1, "f", 7), l(1, "f", 8), l(1, "f", 9)}, []Part{{0, 2, l(1, "f", 7)}}},
		{"stays", []Line{l(1, "f", 7), l(1, "f", 7)}, []Part{{0, 0, l(1, "f", 7)}, {1, 1, l(1, "f", 7)}}},
		{"falls", []Line{l(1, "f", 7), l(1, "f", 6)}, []Part{{0, 0, l(1, "f", 7)}, {1, 1, l(1, "f", 6)}}},
		{"rises by two", []Line{l(1, "f", 7), l(1, "f", 9)}, []Part{{0, 0, l(1, "f", 7)}, {1, 1, l(1, "f", 9)}}},
		{"another path", []Line{l(1, "f", 7), l(1, "g", 8)}, []Part{{0, 0, l(1, "f", 7)}, {1, 1, l(1, "g", 8)}}},
		{"another commit", []Line{l(1, "f", 7), l(2, "f", 8)}, []Part{{0, 0, l(1, "f", 7)}, {1, 1, l(2, "f", 8)}}},
		{"in between", []Line{l(1, "f", 0), l(2, "f", 1), l(1, "f", 1)}, []Part{{0, 0, l(1, "f", 0)}, {1, 1, l(2, "f", 1)}, {2, 2, l(1, "f", 1)}}},
		{"several", []Line{l(1, "f", 0), l(1, "f", 1), l(2, "f", 2), l(2, "f", 3), l(2, "f", 4), l(2, "g", 5), l(2, "g", 6)}, []Part{{0, 1, l(1, "f", 0)}, {2, 4, l(2, "f", 2)}, {5, 6, l(2, "g", 5)}}},
		{"the greatest", []Line{l(1, "f", math.MaxInt-1), l(1, "f", math.MaxInt), l(1, "f", math.MinInt), l(1, "f", math.MinInt+1)}, []Part{{0, 1, l(1, "f", math.MaxInt-1)}, {2, 3, l(1, "f", math.MinInt)}}},
		{"the least", []Line{l(1, "f", math.MinInt), l(1, "f", math.MaxInt), l(1, "f", math.MaxInt)}, []Part{{0, 0, l(1, "f", math.MinInt)}, {1, 1, l(1, "f", math.MaxInt)}, {2, 2, l(1, "f", math.MaxInt)}}},
		{"across 0", []Line{l(0, "", -2), l(0, "", -1), l(0, "", 0), l(0, "", 1)}, []Part{{0, 3, l(0, "", -2)}}},
		{"any texts", []Line{l(1, "//", 1), l(1, "//", 2), l(1, "\xff", 3), l(1, "\xff\xff", 4)}, []Part{{0, 1, l(1, "//", 1)}, {2, 2, l(1, "\xff", 3)}, {3, 3, l(1, "\xff\xff", 4)}}},
		{"the greatest ID", []Line{l(math.MaxUint64, "f", 1), l(math.MaxUint64, "f", 2), l(0, "f", 3)}, []Part{{0, 1, l(math.MaxUint64, "f", 1)}, {2, 2, l(0, "f", 3)}}},
	} {
		if got := Parts(c.lines...); !slices.Equal(got, c.want) {
			t.Errorf("%s: %v, want %v", c.what, got, c.want)
		}
	}
	if got := Parts(); len(got) != 0 {
		t.Error(got)
	}
}

// wantParts: the words of P19.3: what a part says of its lines, and that no two parts could be one.
func wantParts(t testing.TB, lines []Line, parts []Part) {
	t.Helper()
	next := 0
	for _, part := range parts {
		if part.From != next || part.To < part.From || part.To >= len(lines) || part.Line != lines[part.From] {
			t.Fatalf("%v of %v", parts, lines)
		}
		for at := part.From; at <= part.To; at++ {
			if lines[at] != (Line{part.Line.Commit, part.Line.Path, part.Line.Line + at - part.From}) {
				t.Fatalf("%v of %v", parts, lines)
			}
		}
		if next > 0 {
			above := lines[next-1]
			above.Line++
			if above == part.Line {
				t.Fatalf("%v of %v could be fewer", parts, lines)
			}
		}
		next = part.To + 1
	}
	if next != len(lines) {
		t.Fatalf("%v of %v", parts, lines)
	}
}

// P19.3: any lines, few and many.
func TestPartsOfMany(t *testing.T) {
	r := rand.New(rand.NewSource(3))
	for range 3000 {
		var lines []Line
		for range r.Intn(12) {
			lines = append(lines, Line{api.ID(r.Intn(2)), pick(r, []string{"f", "g"}), r.Intn(3)})
			for r.Intn(3) > 0 {
				last := lines[len(lines)-1]
				last.Line++
				lines = append(lines, last)
			}
		}
		wantParts(t, lines, Parts(lines...))
	}
	var many []Line
	for n := range 300000 {
		many = append(many, Line{1, "f", n + n/1000})
	}
	parts := Parts(many...)
	if wantParts(t, many, parts); len(parts) != 300 {
		t.Error(len(parts))
	}
}

// whole is a list with its spare room.
func whole[T any](list []T) []T { return list[:cap(list)] }

// fill writes into all of a list, and into its spare room.
func fill[T any](list []T, mark T) {
	for i := range whole(list) {
		whole(list)[i] = mark
	}
}

// Rule 3: answers are new memory; what is handed in is not changed, its spare room neither, and not kept.
func TestMemory(t *testing.T) {
	h := shapes(t)
	mark := Line{66, "m", 66}
	for what, g := range h.views() {
		for n := range h.puts {
			for _, p := range rising(h.puts[n].files) {
				first, second := h.ask(g, n, p), h.ask(g, n, p)
				want := h.want(n, p)
				fill(first, mark)
				if !slices.Equal(h.spots(second), want) || !slices.Equal(h.spots(h.ask(g, n, p)), want) {
					t.Error(what, n, p, "shares memory")
				}
			}
		}
		if slices.Contains(g.Read(), 66) || slices.Contains(g.Opened(), 66) {
			t.Error(what, "answers the graph's memory")
		}
		wantEach(t, what, g, h)
	}
	lines := append(make([]Line, 0, 40), Line{1, "f", 1}, Line{1, "f", 2}, Line{2, "f", 3})
	fill(lines[3:], mark)
	was := slices.Clone(whole(lines))
	first, second := Parts(lines...), Parts(lines...)
	fill(first, Part{66, 66, mark})
	if !slices.Equal(whole(lines), was) {
		t.Error("what is handed in is changed:", lines)
	}
	fill(lines, mark)
	if !slices.Equal(second, []Part{{0, 1, Line{1, "f", 1}}, {2, 2, Line{2, "f", 3}}}) {
		t.Error("shared:", second)
	}
}

// Commits that are put behind the graph's making are there, and not covered.
func TestPutBehindTheGraph(t *testing.T) {
	h := shapes(t)
	all := h.views()
	last := len(h.puts) - 1
	h.commit(texts{"a": "z\na\nb", "e": words("y a")}, last)
	h.commit(texts{"a": "z\nz\na\nb", "e2": words("a y b c a")}, last, 0)
	h.commit(texts{"a": "z\nz\na\nb"}, last+1, last+2)
	for what, g := range all {
		wantEach(t, what, g, h)
	}
	wantEach(t, "covered later", h.covers(), h)
}

// Rule 4: what is asked in between, written or dropped changes no answer.
func TestAskedInBetween(t *testing.T) {
	h := shapes(t)
	h.write(9)
	g := graph.New(h.s, h.c)
	want := h.ask(g, 11, "a")
	at := h.line(spot{11, "a", 1})
	to, _, _ := Step(g, at)
	for step, do := range []func(){
		func() {},
		func() { h.write() },
		func() { h.must(h.c.Drop(1)) },
		func() { h.must(h.s.SetRef("main", h.puts[3].id)) },
		func() { h.commit(texts{"a": words("a")}, 11) },
		func() { h.must(h.c.Drop(1)) },
		func() { g.Parents(h.puts[3].id); g.Content(h.puts[3].id) },
		func() { h.ask(g, 13, "e") },
		func() { Lines(g, 1, "a"); Lines(g, h.puts[11].id, "q"); Step(g, Line{}) },
		func() { Parts(want...) },
		g.Reset,
	} {
		do()
		if got := h.ask(g, 11, "a"); !slices.Equal(got, want) {
			t.Errorf("step %d: %v", step, h.spots(got))
		}
		if got, passed, e := Step(g, at); got != to || !passed || e != api.OK {
			t.Errorf("step %d: %v, %v, %v", step, got, passed, e)
		}
	}
}

// The same is read each time, in the same order: what is asked for hangs on no map's order.
func TestSameReads(t *testing.T) {
	h := shapes(t)
	for what, g := range h.few() {
		var read, opened []api.ID
		for k := range 20 {
			g.Reset()
			for n := range h.puts {
				for _, p := range rising(h.puts[n].files) {
					h.ask(g, n, p)
				}
			}
			if k > 0 && (!slices.Equal(read, g.Read()) || !slices.Equal(opened, g.Opened())) {
				t.Fatal(what, "something else is read")
			}
			read, opened = g.Read(), g.Opened()
		}
	}
}

// The store, the chain and the disk are only asked.
func TestNothingIsWritten(t *testing.T) {
	h := shapes(t)
	h.write(3)
	tell := func() string {
		var b strings.Builder
		for _, name := range h.d.Names() {
			file, _ := h.d.Read(name)
			fmt.Fprintln(&b, name, file)
		}
		fmt.Fprintln(&b, h.d.Writes(), h.s.Commits(), h.s.Refs(), h.s.Tags(), h.c.Names(), h.c.Sizes(), h.c.Rows())
		return b.String()
	}
	was := tell()
	wantEach(t, "some", graph.New(h.s, h.c), h)
	if tell() != was {
		t.Error("something has changed")
	}
}

// P0.1: layers that were spoilt, and a chain that a cut left, change no answer; a power that is gone neither.
func TestSpoiltLayersAndCuts(t *testing.T) {
	h := shapes(t)
	for _, n := range []int{0, 3, 9} {
		h.write(n)
	}
	h.write()
	first := h.d
	for _, name := range append(h.c.Names(), "chain") {
		file, _ := first.Read(name)
		for at := 0; at < len(file); at += 1 + len(file)/12 {
			h.d = first.Clone()
			h.must(h.d.Spoil(name, at, 4))
			h.open()
			wantEach(t, fmt.Sprint("spoilt ", name, " at ", at), graph.New(h.s, h.c), h)
		}
	}
	for after := range 7 {
		h.d = first.Clone()
		h.open()
		g := graph.New(h.s, h.c)
		h.must(h.d.Cut(after, 10))
		// Seven raw writes: the layer's file, the two of the swap, and four that go.
		if e := h.c.Merge(4); e != api.ErrDead {
			t.Fatal(after, e)
		}
		wantEach(t, fmt.Sprint("dead behind ", after), g, h)
		h.d.Restart()
		h.open()
		wantEach(t, fmt.Sprint("restarted behind ", after), graph.New(h.s, h.c), h)
	}
}

// P19.1 to P19.4: all histories of up to four commits, whatever their parents and the order of these, with some few trees.
func TestAllSmallHistories(t *testing.T) {
	trees := []texts{
		{"a": words("x y")}, {"b": words("x y")}, {"a": words("y x")}, // those of four commits
		{"a": words("x y"), "b": words("x y")}, {"c": words("x y"), "b": words("y")}, nil, {"a": words("y y"), "b": words("y x")},
	}
	at := 0
	for _, size := range []struct{ commits, trees int }{{1, 7}, {2, 7}, {3, 7}, {4, 3}} {
		for _, shape := range shapesOf(size.commits) {
			for _, files := range treesOf(size.commits, trees[:size.trees]) {
				h := newHistory(t)
				for n, parents := range shape {
					h.commit(files[n], parents...)
				}
				g := graph.New(h.s, nil)
				switch at++; at % 3 {
				case 1:
					g = h.covers()
				case 2:
					g = h.covers(size.commits / 2)
				}
				last := size.commits - 1
				for _, p := range rising(files[last]) {
					wantLines(t, fmt.Sprint(shape, files), g, h, last, p)
					wantSteps(t, fmt.Sprint(shape, files), g, h, last, p)
				}
				if t.Failed() {
					return
				}
			}
		}
	}
}

// shapesOf: all choices of parents, in all orders, of so many commits.
func shapesOf(n int) [][][]int {
	if n == 0 {
		return [][][]int{nil}
	}
	var all [][][]int
	for _, below := range shapesOf(n - 1) {
		for _, parents := range orders(n - 1) {
			all = append(all, append(slices.Clone(below), parents))
		}
	}
	return all
}

// orders: all lists of unlike numbers below n.
func orders(n int) [][]int {
	all := [][]int{nil}
	for at := 0; at < len(all); at++ {
		for next := range n {
			if !slices.Contains(all[at], next) {
				all = append(all, append(slices.Clone(all[at]), next))
			}
		}
	}
	return all
}

// treesOf: for so many commits all choices of a tree.
func treesOf(n int, trees []texts) [][]texts {
	if n == 0 {
		return [][]texts{nil}
	}
	var all [][]texts
	for _, others := range treesOf(n-1, trees) {
		for _, files := range trees {
			all = append(all, append(slices.Clone(others), files))
		}
	}
	return all
}

func pick[T any](r *rand.Rand, list []T) T { return list[r.Intn(len(list))] }

// scramble changes some lines of a text: they come, go, change, or change places; few words, so that many are alike.
func scramble(r *rand.Rand, s string) string {
	lines := cut(s)
	if n := len(lines); n > 0 && !strings.HasSuffix(lines[n-1], "\n") {
		lines[n-1] += "\n"
	}
	for range r.Intn(4) {
		at := r.Intn(len(lines) + 1)
		word := fmt.Sprintln(r.Intn(5))
		switch {
		case at == len(lines) || r.Intn(3) == 0:
			lines = slices.Insert(lines, at, word)
		case r.Intn(2) == 0:
			lines = slices.Delete(lines, at, at+1)
		case r.Intn(2) == 0:
			lines[at] = word
		default:
			to := r.Intn(len(lines))
			lines[at], lines[to] = lines[to], lines[at]
		}
	}
	s = strings.Join(lines, "")
	if r.Intn(4) == 0 {
		s = strings.TrimSuffix(s, "\n")
	}
	return s
}

func names() []string { return []string{"a", "b", "c.", "d/1", "d/2", "e"} }

// edit is files with some changes: files are put, changed, moved, copied and removed.
func edit(r *rand.Rand, files texts) texts {
	made := texts{}
	for p, data := range files {
		made[p] = data
	}
	for range pick(r, []int{0, 1, 1, 2, 3}) {
		p, q := pick(r, names()), pick(r, names())
		data, there := made[p]
		switch k := r.Intn(9); {
		case !there:
			made[p] = words(pick(r, []string{"0 1 2 3 4", "1 2", "", "3 3 3"}))
		case k < 4:
			made[p] = scramble(r, data)
		case k < 6:
			delete(made, p)
			made[q] = data
		case k < 7:
			made[q] = data
		case k < 8:
			delete(made, p)
		default:
			made[p], made[q] = scramble(r, made[q]), data
		}
	}
	return made
}

// merged is files of which some are one parent's, some another's, and some have lines of both.
func merged(r *rand.Rand, sides []texts) texts {
	made := texts{}
	for _, p := range names() {
		data, there := pick(r, sides)[p]
		if there && r.Intn(2) == 0 {
			var lines []string
			for _, side := range sides {
				for _, line := range cut(side[p]) {
					if strings.HasSuffix(line, "\n") && r.Intn(4) > 0 {
						lines = append(lines, line)
					}
				}
			}
			data = strings.Join(lines[:min(len(lines), 9)], "")
		}
		if there {
			made[p] = data
		}
	}
	return made
}

// grow puts a commit above some late ones, or a root.
func (h *history) grow(r *rand.Rand) {
	n := len(h.puts)
	var parents []int
	for _, k := range r.Perm(min(n, 5))[:min(n, pick(r, []int{0, 1, 1, 1, 1, 1, 1, 2, 2, 2, 3, 5}))] {
		parents = append(parents, n-1-k)
	}
	files := texts{}
	var sides []texts
	for _, parent := range parents {
		sides = append(sides, h.puts[parent].files)
	}
	if len(sides) > 0 {
		files = pick(r, sides)
	}
	if len(sides) > 1 {
		files = merged(r, sides)
	}
	if len(sides) < 2 || r.Intn(2) == 0 {
		files = edit(r, files)
	}
	h.commit(files, parents...)
}

// braid puts two commits above the last one, each of which moves another file to one path, and their merge, which has lines of both.
func (h *history) braid(r *rand.Rand) {
	base := len(h.puts) - 1
	files := h.puts[base].files
	from := slices.DeleteFunc(rising(files), func(p string) bool { return len(cut(files[p])) == 0 })
	if _, there := files["b"]; there || len(from) < 2 {
		return
	}
	var lines []string
	r.Shuffle(len(from), func(i, j int) { from[i], from[j] = from[j], from[i] })
	for _, p := range from[:2] {
		made := texts{}
		for q, data := range files {
			made[q] = data
		}
		delete(made, p)
		made["b"] = files[p]
		h.commit(made, base)
		for _, line := range cut(files[p]) {
			lines = slices.Insert(lines, r.Intn(len(lines)+1), strings.TrimSuffix(line, "\n")+"\n")
		}
	}
	h.commit(texts{"b": strings.Join(lines, "")}, base+1, base+2)
}

// tally counts what a history is good for.
func (h *history) tally(count map[string]int) {
	for n, c := range h.puts {
		for _, p := range rising(c.files) {
			paths := map[int]string{}
			for line := range cut(c.files[p]) {
				way := h.way(spot{n, p, line})
				for at, s := range way {
					if paths[s.n] != "" && paths[s.n] != s.path {
						count["two paths of one commit"]++
					}
					paths[s.n] = s.path
					if at == 0 {
						continue
					}
					if s.path != way[at-1].path {
						count["moved"]++
					}
					if s.line != way[at-1].line {
						count["another place"]++
					}
					if _, k, _ := h.passed(way[at-1]); k > 0 {
						count["to a further parent"]++
					}
				}
				if len(way) > 9 {
					count["far"]++
				}
				if len(way) == 1 && len(c.parents) > 1 {
					count["from a merge"]++
				}
			}
		}
	}
}

// P19.1 to P19.4: random histories and chains, against the words of the chapter, whatever the Dates.
func TestRandom(t *testing.T) {
	r := rand.New(rand.NewSource(19))
	count := map[string]int{}
	dates := []func(n int) int64{
		func(n int) int64 { return 0 },
		func(n int) int64 { return int64(n) },
		func(n int) int64 { return int64(1000 - n) },
		func(n int) int64 { return int64(n * 7919 % 101) },
	}
	for k := range 120 {
		h := newHistory(t)
		h.date = dates[k%len(dates)]
		for range 5 + r.Intn(30) {
			h.grow(r)
			if r.Intn(4) == 0 {
				h.braid(r)
			}
		}
		for range 3 {
			if r.Intn(3) > 0 {
				h.write(r.Intn(len(h.puts)), r.Intn(len(h.puts)))
			}
		}
		if r.Intn(3) == 0 {
			h.write()
		}
		g := graph.New(h.s, h.c)
		if r.Intn(5) == 0 {
			g = graph.New(h.s, nil)
		}
		for range r.Intn(3) {
			h.grow(r)
		}
		wantEach(t, fmt.Sprint("history ", k), g, h)
		h.tally(count)
		if t.Failed() {
			t.FailNow()
		}
	}
	for _, what := range []string{"two paths of one commit", "moved", "another place", "to a further parent", "far", "from a merge"} {
		if count[what] < 100 {
			t.Error("met too seldom to tell much:", what, count)
		}
	}
}

// P19.1: with layers no files are read of commits whose filters say that a file is the same.
func TestReadsOfALine(t *testing.T) {
	h := newHistory(t, node{nil, texts{"f": words("a b"), "o": "0"}})
	for n := 1; n < 240; n++ {
		f := words("a b")
		if n >= 100 {
			f = words("a c b")
		}
		h.commit(texts{"f": f, "o": fmt.Sprint(n)}, n-1)
	}
	want := []spot{{0, "f", 0}, {100, "f", 1}, {0, "f", 1}}
	for what, g := range h.few() {
		g.Reset()
		if got := h.spots(h.ask(g, 239, "f")); !slices.Equal(got, want) {
			t.Error(what, got)
		}
		if g.Covered() && g.Trees() > 30 {
			t.Errorf("%s: files were read %d times for the sake of two commits", what, g.Trees())
		}
		wantLines(t, what, g, h, 239, "f")
	}
}

// Rule 5: as many commits as a disk holds, of which each changes a long file, end soon.
func TestManyInALine(t *testing.T) {
	h := newHistory(t)
	even, odd := texts{"f": row(256, 0)}, texts{"f": row(255, 1) + "end\n"}
	h.commit(even)
	h.tree(odd)
	for h.tryCommit([]texts{even, odd}[len(h.puts)%2], len(h.puts)-1) == api.OK {
	}
	n := len(h.puts)
	if n < 3000 {
		t.Fatal(n)
	}
	for what, g := range map[string]*graph.Graph{"nil": graph.New(h.s, nil), "some": h.covers(n / 2)} {
		lines := h.ask(g, n-1, "f")
		if len(lines) != 256 {
			t.Fatal(what, len(lines))
		}
		for line, l := range lines {
			if way := h.way(spot{n - 1, "f", line}); h.line(way[len(way)-1]) != l {
				t.Fatal(what, line, h.spot(l))
			}
		}
	}
}

// With Dates that rise each commit is looked at once, though lines come to it by several ways.
func TestReadsOfALadder(t *testing.T) {
	h := ladder(t, 60, func(n int) int64 { return int64(n) })
	for what, g := range h.few() {
		g.Reset()
		h.ask(g, len(h.puts)-1, "f")
		if g.Visits() != len(h.puts) {
			t.Errorf("%s: %d reads of the parents of %d commits", what, g.Visits(), len(h.puts))
		}
	}
}

// ladder is so many rungs, each of two commits and their merge, to one of which each line of a file goes by a digit of its number: so they part at each merge and meet again below it.
func ladder(t testing.TB, rungs int, date func(n int) int64) *history {
	full := row(256, 1000)
	h := newHistory(t)
	h.date = date
	h.commit(texts{"f": full})
	for k := range rungs {
		var sides [2]strings.Builder
		for n, line := range cut(full) {
			sides[n>>(k%8)&1].WriteString(line)
		}
		below := len(h.puts) - 1
		h.commit(texts{"f": sides[0].String()}, below)
		h.commit(texts{"f": sides[1].String()}, below)
		h.commit(texts{"f": full}, below+1, below+2)
	}
	return h
}

// Rule 5: lines that go their ways through many merges, with Dates that say nothing, end soon.
func TestManyWays(t *testing.T) {
	h := ladder(t, 300, func(n int) int64 { return int64(n) * 7919 % 10007 })
	top := len(h.puts) - 1
	for what, g := range h.few() {
		lines := h.ask(g, top, "f")
		for line, l := range lines {
			if l != h.line(spot{0, "f", line}) {
				t.Fatal(what, line, h.spot(l))
			}
		}
		if len(lines) != 256 || len(Parts(lines...)) != 1 {
			t.Error(what, len(lines))
		}
	}
	wantLines(t, "nil", graph.New(h.s, nil), h, 12, "f")
	wantSteps(t, "nil", graph.New(h.s, nil), h, 12, "f")
}

// The ways that the chapter asks for.
func TestWays(t *testing.T) {
	if !reflect.TypeOf(Parts).IsVariadic() {
		t.Error("Parts isn't variadic")
	}
}
