package describe

import (
	"fmt"
	"math"
	"math/big"
	"math/rand"
	"reflect"
	"slices"
	"strings"
	"testing"

	"forebear/api"
	"forebear/chain"
	"forebear/disk"
	"forebear/graph"
	"forebear/store"
)

// put is a commit as the tests put it: what is told is held against it, not against what the store tells.
type put struct {
	id      api.ID
	parents []int
	date    int64
	// The numbers of the commits from it, as bits.
	from *big.Int
}

// label is a tag as the tests set it: its name, and the number of its commit.
type label struct {
	name string
	at   int
}

// history is a disk with a store and a chain, its commits in the order in which they were put, and its tags; a commit's number is its place there.
type history struct {
	t          testing.TB
	d          *disk.Disk
	s          *store.Store
	c          *chain.Chain
	tree, blob api.ID
	puts       []put
	numbers    map[api.ID]int
	tags       []label
}

func newHistory(t testing.TB) *history {
	t.Helper()
	h := &history{t: t, d: disk.New(), numbers: map[api.ID]int{}}
	h.open()
	var e api.Errno
	h.blob, e = h.s.Blob([]byte("1"))
	h.must(e)
	h.tree, e = h.s.Tree(api.Entry{Path: "a", Blob: h.blob})
	h.must(e)
	return h
}

// open opens store and chain anew.
func (h *history) open() {
	h.t.Helper()
	var e api.Errno
	h.s, e = store.Open(h.d)
	h.must(e)
	h.c, e = chain.Open(h.d, h.s)
	h.must(e)
}

func (h *history) must(e api.Errno) {
	h.t.Helper()
	if e != api.OK {
		h.t.Fatal(e)
	}
}

// tryCommit puts one above those of these numbers; its note makes it unlike the others.
func (h *history) tryCommit(date int64, parents ...int) api.Errno {
	h.t.Helper()
	n := len(h.puts)
	id, e := h.s.Commit(api.Commit{Tree: h.tree, Parents: h.of(parents...), Date: date, Note: fmt.Sprint(n)})
	if e != api.OK {
		return e
	}
	from := new(big.Int)
	for _, parent := range parents {
		from.Or(from, h.puts[parent].from)
	}
	from.SetBit(from, n, 1)
	h.puts = append(h.puts, put{id: id, parents: slices.Clone(parents), date: date, from: from})
	h.numbers[id] = n
	return api.OK
}

func (h *history) commit(date int64, parents ...int) int {
	h.t.Helper()
	h.must(h.tryCommit(date, parents...))
	return len(h.puts) - 1
}

func (h *history) tag(labels ...label) {
	h.t.Helper()
	for _, l := range labels {
		h.must(h.s.SetTag(l.name, h.puts[l.at].id))
		h.tags = append(h.tags, l)
	}
}

// of is the IDs of the commits of these numbers.
func (h *history) of(numbers ...int) []api.ID {
	var ids []api.ID
	for _, n := range numbers {
		ids = append(ids, h.puts[n].id)
	}
	return ids
}

func (h *history) all() []int {
	var all []int
	for n := range h.puts {
		all = append(all, n)
	}
	return all
}

// write lays a layer of the commits of these numbers and their ancestors; without numbers of all.
func (h *history) write(numbers ...int) {
	h.t.Helper()
	h.must(h.c.Write(h.of(numbers...)...))
}

// covers makes a graph whose chain covers the commits of these numbers and their ancestors; without numbers all.
func (h *history) covers(numbers ...int) *graph.Graph {
	h.t.Helper()
	for range h.c.Names() {
		h.must(h.c.Drop(1))
	}
	h.write(numbers...)
	return graph.New(h.s, h.c)
}

// views are graphs of a history: without a chain, and of chains that cover none, some and all commits.
func (h *history) views() map[string]*graph.Graph {
	h.t.Helper()
	last := len(h.puts) - 1
	all := map[string]*graph.Graph{"nil": graph.New(h.s, nil), "none": graph.New(h.s, h.c)}
	all["a root"] = h.covers(0)
	all["some"] = h.covers(last/2, last/3)
	// Covered by several layers, of which each stands on the other.
	h.must(h.c.Drop(1))
	h.write(last / 3)
	h.write(last / 2)
	all["some, layers"] = graph.New(h.s, h.c)
	h.write()
	all["all, layers"] = graph.New(h.s, h.c)
	all["all"] = h.covers()
	return all
}

// strangers are IDs of no commit: of the tree and the blob, of nothing, and such as are near to those of commits.
func (h *history) strangers() []api.ID {
	ids := []api.ID{0, 1, 5, 1 << 63, math.MaxUint64, h.tree, h.blob}
	for _, p := range h.puts[:min(3, len(h.puts))] {
		ids = append(ids, p.id+1, p.id-1, ^p.id)
	}
	return slices.DeleteFunc(ids, func(id api.ID) bool {
		_, is := h.numbers[id]
		return is
	})
}

// isFrom: is the commit of number a from that of b?
func (h *history) isFrom(a, b int) bool { return h.puts[b].from.Bit(a) == 1 }

// plainCount: how many are from the one, and not from the other, by the words of the chapter.
func (h *history) plainCount(n, other int) int {
	count := 0
	for k := range h.puts {
		if h.isFrom(k, n) && !h.isFrom(k, other) {
			count++
		}
	}
	return count
}

// plainTellers are the tags that may tell a commit.
func (h *history) plainTellers(n int) []label {
	return slices.DeleteFunc(slices.Clone(h.tags), func(l label) bool { return !h.isFrom(l.at, n) })
}

// plainNearest is the nearest tag by the words of the chapter: of those that may tell a commit the ones with the least count, of these the ones with the greatest Date, of these the one with the least Name.
func (h *history) plainNearest(n int) (label, int, bool) {
	may := h.plainTellers(n)
	if len(may) == 0 {
		return label{}, 0, false
	}
	least := math.MaxInt
	for _, l := range may {
		least = min(least, h.plainCount(n, l.at))
	}
	may = slices.DeleteFunc(may, func(l label) bool { return h.plainCount(n, l.at) > least })
	latest := int64(math.MinInt64)
	for _, l := range may {
		latest = max(latest, h.puts[l.at].date)
	}
	may = slices.DeleteFunc(may, func(l label) bool { return h.puts[l.at].date < latest })
	first := may[0]
	for _, l := range may {
		if l.name < first.name {
			first = l
		}
	}
	return first, least, true
}

func (h *history) plainText(n int) string {
	l, count, is := h.plainNearest(n)
	switch {
	case !is:
		return fmt.Sprintf("%016x", uint64(h.puts[n].id))
	case count == 0:
		return l.name
	}
	return fmt.Sprintf("%s-%d-%016x", l.name, count, uint64(h.puts[n].id))
}

func (h *history) plainTexts(numbers ...int) []string {
	var texts []string
	for _, n := range numbers {
		texts = append(texts, h.plainText(n))
	}
	return texts
}

// someTags are as many as a failure is read with.
func (h *history) someTags() []label { return h.tags[:min(len(h.tags), 20)] }

// wantCount: P21.1.
func (h *history) wantCount(what string, g *graph.Graph, n, other, want int) {
	h.t.Helper()
	if count, e := Count(g, h.puts[n].id, h.puts[other].id); count != want || e != api.OK {
		h.t.Errorf("%s: Count of %d and %d: %d, %v, want %d", what, n, other, count, e, want)
	}
}

// wantNearest: P21.2; of a commit that no tag may tell the name is empty.
func (h *history) wantNearest(what string, g *graph.Graph, n int, name string, count int) {
	h.t.Helper()
	tag, got, e := Nearest(g, h.puts[n].id)
	want, wantError := api.Named{}, api.ErrNone
	for _, l := range h.tags {
		if l.name == name {
			want, wantError = api.Named{Name: name, ID: h.puts[l.at].id}, api.OK
		}
	}
	if tag != want || got != count || e != wantError {
		h.t.Errorf("%s: Nearest of %d with %v: %v, %d, %v, want %v, %d, %v", what, n, h.someTags(), tag, got, e, want, count, wantError)
	}
}

// wantText: P21.3.
func (h *history) wantText(what string, g *graph.Graph, n int, want string) {
	h.t.Helper()
	if text, e := Text(g, h.puts[n].id); text != want || e != api.OK {
		h.t.Errorf("%s: Text of %d with %v: %q, %v, want %q", what, n, h.someTags(), text, e, want)
	}
}

// wantTexts: P21.3.
func (h *history) wantTexts(what string, g *graph.Graph, numbers ...int) {
	h.t.Helper()
	if texts, e := Texts(g, h.of(numbers...)...); e != api.OK || !slices.Equal(texts, h.plainTexts(numbers...)) {
		h.t.Errorf("%s: Texts of %v with %v: %q, %v, want %q", what, numbers, h.someTags(), texts, e, h.plainTexts(numbers...))
	}
}

// wantTold holds what is told of a commit against the words of the chapter.
func (h *history) wantTold(what string, g *graph.Graph, n int) {
	h.t.Helper()
	l, count, _ := h.plainNearest(n)
	h.wantNearest(what, g, n, l.name, count)
	h.wantText(what, g, n, h.plainText(n))
}

// wantAll holds what is told of all commits, and of each two, against the words of the chapter; nothing is written, and no files are read.
func (h *history) wantAll(what string, g *graph.Graph) {
	h.t.Helper()
	was, trees := h.tell(), g.Trees()
	for n := range h.puts {
		for other := range h.puts {
			h.wantCount(what, g, n, other, h.plainCount(n, other))
		}
		h.wantTold(what, g, n)
	}
	all := h.all()
	h.wantTexts(what, g, all...)
	slices.Reverse(all)
	h.wantTexts(what, g, append(all, h.all()...)...)
	if h.tell() != was {
		h.t.Errorf("%s: something was written", what)
	}
	if g.Trees() != trees {
		h.t.Errorf("%s: files were read: %x", what, g.Opened())
	}
}

// tell is all that is on the disk, and what store and chain tell.
func (h *history) tell() string {
	var b strings.Builder
	for _, name := range h.d.Names() {
		file, _ := h.d.Read(name)
		fmt.Fprintln(&b, name, file)
	}
	fmt.Fprintln(&b, h.d.Writes(), h.d.Dead(), h.s.Commits(), h.s.Refs(), h.s.Tags(), h.c.Names(), h.c.Sizes(), h.c.Rows())
	return b.String()
}

// shapes is a history with merges of two and of MaxParents parents, several roots, and commits to which nothing leads.
func shapes(t testing.TB) *history {
	t.Helper()
	h := newHistory(t)
	h.commit(5)                         // 0
	h.commit(1, 0)                      // 1
	h.commit(9, 0)                      // 2
	h.commit(3, 1, 2)                   // 3
	h.commit(4, 3)                      // 4
	h.commit(7)                         // 5: another root
	h.commit(7, 5)                      // 6
	h.commit(2, 4, 6)                   // 7
	h.commit(8, 0)                      // 8
	h.commit(0)                         // 9: a root alone
	h.commit(1, 7, 4, 6, 2, 1, 0, 5, 8) // 10
	h.commit(6, 10)                     // 11
	h.commit(9, 3)                      // 12: nothing leads to it
	return h
}

// line is so many commits one above the other, with rising dates.
func line(t testing.TB, n int) *history {
	t.Helper()
	h := newHistory(t)
	h.commit(0)
	for k := 1; k < n; k++ {
		h.commit(int64(k), k-1)
	}
	return h
}

// fork is a root, so many commits above it with these dates, a merge of them, and a commit above that: tags at them are alike in their counts.
func fork(t testing.TB, dates ...int64) (h *history, merge int) {
	t.Helper()
	h = newHistory(t)
	h.commit(4)
	var sides []int
	for _, date := range dates {
		sides = append(sides, h.commit(date, 0))
	}
	merge = h.commit(6, sides...)
	h.commit(5, merge)
	return h, merge
}

func digits(h *history, n int) string { return fmt.Sprintf("%016x", uint64(h.puts[n].id)) }

// The chapter's example.
func TestExample(t *testing.T) {
	h := line(t, 3)
	h.tag(label{"v1", 0}, label{"v2", 2})
	for what, g := range h.views() {
		h.wantText(what, g, 1, "v1-1-"+digits(h, 1))
		h.wantText(what, g, 2, "v2")
		h.wantText(what, g, 0, "v1")
		h.wantAll(what, g)
	}
}

// The document's example: two tags as near as each other: the one with the later date, then the lesser name.
func TestAsNearAsEachOther(t *testing.T) {
	h, merge := fork(t, 8, 7, 8)
	h.tag(label{"c", 3}, label{"a", 2}, label{"b", 1})
	for what, g := range h.views() {
		h.wantNearest(what, g, merge, "b", 3)
		h.wantText(what, g, merge, "b-3-"+digits(h, merge))
		h.wantText(what, g, merge+1, "b-4-"+digits(h, merge+1))
		h.wantAll(what, g)
	}
}

// P21.1: counts that can be read off the shapes.
func TestCountByHand(t *testing.T) {
	h := shapes(t)
	for what, g := range h.views() {
		for _, c := range []struct{ n, other, want int }{
			// Of a commit and itself.
			{0, 0, 0}, {3, 3, 0}, {9, 9, 0}, {11, 11, 0},
			// Of one and its ancestor, and the other way round.
			{1, 0, 1}, {0, 1, 0}, {3, 1, 2}, {1, 3, 0}, {3, 0, 3}, {0, 3, 0}, {7, 4, 3}, {4, 7, 0}, {7, 6, 6}, {7, 5, 7}, {11, 10, 1}, {11, 7, 3}, {11, 8, 9}, {11, 0, 10}, {10, 5, 9},
			// Neither is from the other.
			{1, 2, 1}, {2, 1, 1}, {4, 6, 5}, {6, 4, 2}, {8, 7, 1}, {7, 8, 7}, {12, 11, 1}, {11, 12, 7}, {12, 8, 4}, {8, 12, 1},
			// Nothing is from both.
			{0, 5, 1}, {5, 0, 1}, {9, 10, 1}, {10, 9, 10}, {11, 9, 11}, {9, 11, 1}, {6, 1, 2},
		} {
			h.wantCount(what, g, c.n, c.other, c.want)
		}
	}
}

// told is what is told of a commit: the nearest tag and its count.
type told struct {
	n     int
	name  string
	count int
}

// P21.2, P21.3: what can be read off the shapes; what isn't listed no tag may tell.
func TestNearestByHand(t *testing.T) {
	for _, c := range []struct {
		tags []label
		want []told
	}{
		{nil, nil},
		// At the root of most of them: at the commit itself, and far below others; not of another root's.
		{[]label{{"v", 0}}, []told{{0, "v", 0}, {1, "v", 1}, {2, "v", 1}, {3, "v", 3}, {4, "v", 4}, {7, "v", 7}, {8, "v", 1}, {10, "v", 9}, {11, "v", 10}, {12, "v", 4}}},
		// At a kid of 5: that is told by none.
		{[]label{{"x", 6}}, []told{{6, "x", 0}, {7, "x", 6}, {10, "x", 8}, {11, "x", 9}}},
		// At a root alone, at the last, at one that nothing leads to.
		{[]label{{"a", 9}}, []told{{9, "a", 0}}},
		{[]label{{"e", 11}}, []told{{11, "e", 0}}},
		{[]label{{"e", 12}, {"f", 9}}, []told{{12, "e", 0}, {9, "f", 0}}},
		// Of one count: the later date, whichever name is the lesser one.
		{[]label{{"l", 1}, {"r", 2}}, []told{{1, "l", 0}, {2, "r", 0}, {3, "r", 2}, {4, "r", 3}, {7, "r", 6}, {10, "r", 8}, {11, "r", 9}, {12, "r", 3}}},
		{[]label{{"r", 1}, {"l", 2}}, []told{{1, "r", 0}, {2, "l", 0}, {3, "l", 2}, {4, "l", 3}, {7, "l", 6}, {10, "l", 8}, {11, "l", 9}, {12, "l", 3}}},
		// A lesser count with an earlier date, and a greater name.
		{[]label{{"b", 4}, {"a", 6}}, []told{{4, "b", 0}, {6, "a", 0}, {7, "b", 3}, {10, "b", 5}, {11, "b", 6}}},
		{[]label{{"z", 3}, {"y", 2}}, []told{{2, "y", 0}, {3, "z", 0}, {4, "z", 1}, {7, "z", 4}, {10, "z", 6}, {11, "z", 7}, {12, "z", 1}}},
		// Several at one commit, and one below.
		{[]label{{"m", 4}, {"k", 4}, {"l", 4}, {"a", 3}}, []told{{3, "a", 0}, {4, "k", 0}, {7, "k", 3}, {10, "k", 5}, {11, "k", 6}, {12, "a", 1}}},
		// Of 6, 8 and 1, which have the same count, 8 has the latest date.
		{[]label{{"a", 6}, {"b", 1}, {"c", 8}}, []told{{6, "a", 0}, {7, "a", 6}, {1, "b", 0}, {3, "b", 2}, {4, "b", 3}, {8, "c", 0}, {10, "c", 8}, {11, "c", 9}, {12, "b", 3}}},
		// At all of them.
		{[]label{{"c0", 0}, {"c1", 1}, {"c2", 2}, {"c3", 3}, {"c4", 4}, {"c5", 5}, {"c6", 6}, {"c7", 7}, {"c8", 8}, {"c9", 9}, {"c10", 10}, {"c11", 11}, {"c12", 12}},
			[]told{{0, "c0", 0}, {1, "c1", 0}, {2, "c2", 0}, {3, "c3", 0}, {4, "c4", 0}, {5, "c5", 0}, {6, "c6", 0}, {7, "c7", 0}, {8, "c8", 0}, {9, "c9", 0}, {10, "c10", 0}, {11, "c11", 0}, {12, "c12", 0}}},
	} {
		h := shapes(t)
		h.tag(c.tags...)
		for what, g := range h.views() {
			for n := range h.puts {
				w, text := told{n: n}, digits(h, n)
				for _, x := range c.want {
					if x.n == n && x.count == 0 {
						w, text = x, x.name
					} else if x.n == n {
						w, text = x, fmt.Sprint(x.name, "-", x.count, "-", digits(h, n))
					}
				}
				h.wantNearest(what, g, n, w.name, w.count)
				h.wantText(what, g, n, text)
			}
			h.wantAll(what, g)
		}
	}
}

// P21.2: dates from the least to the greatest; others no commit can have.
func TestDates(t *testing.T) {
	for _, dates := range [][]int64{{0, api.MaxDate}, {0, 1}, {api.MaxDate - 1, api.MaxDate}, {1 << 31, 1<<31 + 1}, {1<<32 - 1, 1 << 32}, {1, 1 << 32}, {9, 10}, {99, 100}} {
		for _, names := range [][]string{{"a", "b"}, {"b", "a"}} {
			for turned := range 2 {
				h, merge := fork(t, dates[turned], dates[1-turned])
				later := 2 - turned
				h.tag(label{names[0], 1}, label{names[1], 2})
				for what, g := range h.views() {
					h.wantNearest(what, g, merge, names[later-1], 2)
					h.wantNearest(what, g, merge+1, names[later-1], 3)
					h.wantAll(what, g)
				}
			}
		}
	}
	h, merge := fork(t, 0, 0)
	h.tag(label{"b", 1}, label{"a", 2})
	for _, date := range []int64{-1, math.MinInt64, api.MaxDate + 1, math.MaxInt64} {
		if e := h.tryCommit(date, 0); e != api.ErrRange {
			t.Error(date, e)
		}
	}
	for what, g := range h.views() {
		h.wantNearest(what, g, merge, "a", 2)
		h.wantAll(what, g)
	}
	// The commit's own date, and that of others beside the tags', say nothing.
	h, merge = fork(t, 3, 2, api.MaxDate, 0)
	h.tag(label{"x", 1}, label{"w", 2}, label{"v", 0})
	for what, g := range h.views() {
		h.wantNearest(what, g, merge, "x", 4)
		h.wantAll(what, g)
	}
}

// orders are all orders of some texts.
func orders(list []string) [][]string {
	if len(list) == 0 {
		return [][]string{nil}
	}
	var all [][]string
	for k := range list {
		rest := slices.Delete(slices.Clone(list), k, k+1)
		for _, order := range orders(rest) {
			all = append(all, append([]string{list[k]}, order...))
		}
	}
	return all
}

// P21.2: of one count and one date the least name, byte by byte, whatever the order in which the tags were set and whichever stands where: at one commit, or at several.
func TestNames(t *testing.T) {
	for _, names := range [][]string{
		{"v1", "v10", "v2"}, {"v", "v1", "va"}, {"v.1", "v0", "v_"}, {"a", "aa", "aaa"}, {"0", "9", "a"}, {".", "_", "z"},
		{"abcdefghijklmnop", "abcdefghijklmnoq", "b"}, {"aaaaaaaaaaaaaaa", "aaaaaaaaaaaaaaaa", "ab"}, {"10", "2", "9"},
	} {
		if !slices.IsSorted(names) {
			t.Fatal(names)
		}
		for _, order := range orders(names) {
			for _, at := range [][]int{{1, 1, 1}, {1, 2, 3}, {3, 1, 2}, {2, 1, 1}} {
				h, merge := fork(t, 7, 7, 7)
				for k, name := range order {
					h.tag(label{name, at[k]})
				}
				for what, g := range map[string]*graph.Graph{"nil": graph.New(h.s, nil), "all": h.covers()} {
					h.wantNearest(what, g, merge, names[0], 3)
					h.wantText(what, g, merge, names[0]+"-3-"+digits(h, merge))
					h.wantAll(what, g)
				}
			}
		}
	}
}

// A name that looks like what is told is told as it is.
func TestNamesLikeTexts(t *testing.T) {
	h := line(t, 14)
	h.tag(label{digits(h, 3), 3}, label{"12", 1})
	g := graph.New(h.s, nil)
	h.wantText("digits", g, 3, digits(h, 3))
	h.wantText("digits", g, 13, digits(h, 3)+"-10-"+digits(h, 13))
	h.wantText("a number", g, 2, "12-1-"+digits(h, 2))
	h.wantText("none", g, 0, digits(h, 0))
	h.wantAll("all", g)
}

// P21.2: refs tell nothing, whatever their names, set, set anew and dropped.
func TestRefs(t *testing.T) {
	h := shapes(t)
	for n := range h.puts {
		h.must(h.s.SetRef(fmt.Sprint("r", n), h.puts[n].id))
	}
	for what, g := range h.views() {
		h.wantNearest(what, g, 11, "", 0)
		h.wantText(what, g, 11, digits(h, 11))
		h.wantAll(what, g)
	}
	h.tag(label{"r4", 1})
	h.must(h.s.SetRef("r4", h.puts[2].id))
	for what, g := range h.views() {
		h.wantNearest(what, g, 4, "r4", 3)
		h.wantNearest(what, g, 2, "", 0)
		h.wantAll(what, g)
	}
	for n := range h.puts {
		h.must(h.s.DropRef(fmt.Sprint("r", n)))
	}
	h.must(h.s.SetRef("a", h.puts[4].id))
	for what, g := range h.views() {
		h.wantNearest(what, g, 4, "r4", 3)
		h.wantAll(what, g)
	}
}

// P21.2: a tag stays where it was set first; what was refused isn't there.
func TestRefusedTags(t *testing.T) {
	h := shapes(t)
	h.tag(label{"v", 1})
	for name, want := range map[string]api.Errno{"v": api.ErrTwice, "": api.ErrName, "A": api.ErrName, "a/b": api.ErrName, "-": api.ErrName, "aaaaaaaaaaaaaaaaa": api.ErrName} {
		if e := h.s.SetTag(name, h.puts[3].id); e != want {
			t.Error(name, e)
		}
	}
	if e := h.s.SetTag("w", h.tree); e != api.ErrMissing {
		t.Error(e)
	}
	h.must(h.d.Cut(0, 3))
	if e := h.s.SetTag("x", h.puts[3].id); e != api.ErrDead {
		t.Error(e)
	}
	for what, g := range map[string]*graph.Graph{"nil": graph.New(h.s, nil), "none": graph.New(h.s, h.c)} {
		h.wantNearest(what, g, 3, "v", 2)
		h.wantAll(what, g)
	}
	h.d.Restart()
	h.open()
	for what, g := range h.views() {
		h.wantNearest(what, g, 3, "v", 2)
		h.wantAll(what, g)
	}
}

// Tags that are set behind the graph's making are there at once; so are commits.
func TestBehindTheGraph(t *testing.T) {
	h := shapes(t)
	all := h.views()
	asked := func(what string) {
		t.Helper()
		for view, g := range all {
			h.wantAll(fmt.Sprint(view, ", ", what), g)
		}
	}
	asked("no tags")
	for _, l := range []label{{"m", 0}, {"k", 5}, {"z", 3}, {"y", 2}, {"a", 7}, {"b", 7}, {"0", 7}} {
		h.tag(l)
		asked(fmt.Sprint("with ", l))
	}
	n := h.commit(3, 11, 9, 12)
	h.commit(2)
	asked("new commits")
	h.tag(label{"n", n}, label{"o", n + 1})
	asked("tags at them")
	h.wantAll("covered later", h.covers())
}

// P21.1 to P21.3: an ID of no commit, as each of those that are handed in; nothing is read or written for it.
func TestMissing(t *testing.T) {
	for _, tags := range [][]label{nil, {{"v", 0}, {"w", 5}, {"x", 3}}} {
		h := shapes(t)
		h.tag(tags...)
		good := h.of(3, 9, 0, 11)
		for what, g := range h.views() {
			was := h.tell()
			for _, id := range h.strangers() {
				for _, c := range [][2]api.ID{{id, good[0]}, {good[0], id}, {id, id}, {id, 0}, {0, id}, {h.tree, id}, {id, h.blob}} {
					if n, e := Count(g, c[0], c[1]); n != 0 || e != api.ErrMissing {
						t.Errorf("%s: Count of %x: %d, %v", what, c, n, e)
					}
				}
				if tag, n, e := Nearest(g, id); tag != (api.Named{}) || n != 0 || e != api.ErrMissing {
					t.Errorf("%s: Nearest of %x: %v, %d, %v", what, id, tag, n, e)
				}
				if text, e := Text(g, id); text != "" || e != api.ErrMissing {
					t.Errorf("%s: Text of %x: %q, %v", what, id, text, e)
				}
				for _, ids := range [][]api.ID{
					{id}, {id, id}, {id, good[0]}, {good[0], id}, {good[0], id, good[1]}, append([]api.ID{id}, good...), append(slices.Clone(good), id), {good[3], 0, id, good[3]},
				} {
					if texts, e := Texts(g, ids...); len(texts) != 0 || e != api.ErrMissing {
						t.Errorf("%s: Texts of %x: %q, %v", what, ids, texts, e)
					}
				}
			}
			if g.Visits() != 0 || g.Trees() != 0 || h.tell() != was {
				t.Errorf("%s: in spite of ErrMissing something was read or written: %x, %x", what, g.Read(), g.Opened())
			}
			h.wantAll(what, g)
		}
	}
}

// A store without commits.
func TestEmptyStore(t *testing.T) {
	h := newHistory(t)
	for what, g := range map[string]*graph.Graph{"nil": graph.New(h.s, nil), "none": graph.New(h.s, h.c)} {
		for _, id := range h.strangers() {
			if _, e := Count(g, id, id); e != api.ErrMissing {
				t.Error(what, id, e)
			}
			if _, _, e := Nearest(g, id); e != api.ErrMissing {
				t.Error(what, id, e)
			}
			if _, e := Text(g, id); e != api.ErrMissing {
				t.Error(what, id, e)
			}
		}
		if texts, e := Texts(g); len(texts) != 0 || e != api.OK {
			t.Error(what, texts, e)
		}
	}
}

// P21.3: Texts of no IDs, nil or empty, of one, of one several times, and in any order.
func TestTexts(t *testing.T) {
	h := shapes(t)
	h.tag(label{"v", 0}, label{"w", 3})
	for what, g := range h.views() {
		for _, none := range [][]api.ID{nil, {}, h.of(0, 1)[:0]} {
			if texts, e := Texts(g, none...); len(texts) != 0 || e != api.OK {
				t.Errorf("%s: %q, %v", what, texts, e)
			}
		}
		if g.Visits() != 0 {
			t.Error(what, "for no IDs something is read")
		}
		for _, numbers := range [][]int{{0}, {4}, {9}, {4, 4}, {9, 9, 9}, {0, 4, 0, 9, 4, 0}, {11, 10, 7, 4, 3, 0}, {0, 3, 4, 7, 10, 11}} {
			h.wantTexts(what, g, numbers...)
		}
		texts, e := Texts(g, h.of(4, 9, 4, 0, 1)...)
		if want := []string{"w-1-" + digits(h, 4), digits(h, 9), "w-1-" + digits(h, 4), "v", "v-1-" + digits(h, 1)}; e != api.OK || !slices.Equal(texts, want) {
			t.Errorf("%s: %q, %v, want %q", what, texts, e, want)
		}
	}
}

// P21.1 to P21.3: counts of one, two and three digits, on lines about MaxIndexed.
func TestLongLines(t *testing.T) {
	for _, n := range []int{12, 120, 250, 251, 300} {
		h := line(t, n)
		side := h.commit(1, n/2)
		h.commit(0, n-1, side)
		h.tag(label{"v", 0}, label{"u", n / 3})
		for what, g := range map[string]*graph.Graph{"nil": graph.New(h.s, nil), "some": h.covers(n / 2), "all": h.covers()} {
			what = fmt.Sprint(n, " ", what)
			for k := range n / 3 {
				text := fmt.Sprintf("v-%d-%s", k, digits(h, k))
				if k == 0 {
					text = "v"
				}
				h.wantText(what, g, k, text)
			}
			for _, k := range []int{n / 3, n/3 + 1, n / 2, n - 2, n - 1, side, side + 1} {
				h.wantTold(what, g, k)
				for _, other := range []int{0, 1, n / 3, n/2 - 1, n / 2, n - 1, side, side + 1} {
					h.wantCount(what, g, k, other, h.plainCount(k, other))
				}
			}
			h.wantText(what, g, n-1, fmt.Sprintf("u-%d-%s", n-1-n/3, digits(h, n-1)))
			h.wantText(what, g, side+1, fmt.Sprintf("u-%d-%s", n+1-n/3, digits(h, side+1)))
			h.wantCount(what, g, n-1, 0, n-1)
			h.wantCount(what, g, side+1, side, n-n/2)
		}
	}
}

// P21.3: the digits of an ID are sixteen, those of small ones too.
func TestSixteenDigits(t *testing.T) {
	h := newHistory(t)
	short := 0
	for k := 0; short < 4 && h.tryCommit(int64(k)) == api.OK; k++ {
		if h.puts[k].id>>56 == 0 {
			short++
		}
	}
	g := graph.New(h.s, nil)
	for n, p := range h.puts {
		if p.id>>56 == 0 {
			h.wantText("short", g, n, digits(h, n))
		}
	}
	if short == 0 {
		t.Error("no ID begins with a 0")
	}
}

// shapesOf: all choices of parents of so many commits.
func shapesOf(n int) [][][]int {
	if n == 0 {
		return [][][]int{nil}
	}
	var all [][][]int
	for _, below := range shapesOf(n - 1) {
		for bits := range 1 << (n - 1) {
			var parents []int
			for k := range n - 1 {
				if bits>>k&1 == 1 {
					parents = append(parents, k)
				}
			}
			all = append(all, append(slices.Clone(below), parents))
		}
	}
	return all
}

// P21.1 to P21.3: all histories of up to four commits, of two dates, with each of two tags (three on up to three commits) at each commit or at none.
func TestAllSmallHistories(t *testing.T) {
	at := 0
	for n := 1; n <= 4; n++ {
		names := []string{"b", "a", "ab"}
		if n == 4 {
			names = names[:2]
		}
		for _, shape := range shapesOf(n) {
			for dates := range 1 << n {
				at++
				wantAllTags(t, at, shape, dates, names)
				if t.Failed() {
					t.Fatal(shape, dates)
				}
			}
		}
	}
}

// wantAllTags puts each name at each commit or at none; the bits of dates tell which commits are the later ones.
func wantAllTags(t *testing.T, at int, shape [][]int, dates int, names []string) {
	t.Helper()
	base := newHistory(t)
	for k, parents := range shape {
		base.commit(int64(dates>>k&1), parents...)
	}
	switch at % 3 {
	case 1:
		base.write()
	case 2:
		base.write(len(shape) / 2)
	}
	places := 1
	for range names {
		places *= len(shape) + 1
	}
	for code := range places {
		h := *base
		h.d = base.d.Clone()
		h.open()
		for _, name := range names {
			if k := code % (len(shape) + 1); k > 0 {
				h.tag(label{name, k - 1})
			}
			code /= len(shape) + 1
		}
		h.wantAll("small", graph.New(h.s, h.c))
	}
}

func pick[T any](r *rand.Rand, list []T) T { return list[r.Intn(len(list))] }

// grow puts a commit above some that are there, mostly late ones.
func (h *history) grow(r *rand.Rand) {
	n := len(h.puts)
	parents := r.Perm(n)
	if late := min(n, 6); r.Intn(4) > 0 {
		parents = nil
		for _, k := range r.Perm(late) {
			parents = append(parents, n-1-k)
		}
	}
	date := pick(r, []int64{0, 1, 1, 1, 2, 2, 2, 2, int64(n), api.MaxDate, r.Int63n(api.MaxDate)})
	h.commit(date, parents[:min(len(parents), pick(r, []int{0, 1, 1, 1, 1, 1, 2, 2, 2, 3, 8}))]...)
}

// count tells what the plain evaluator met in a commit.
func (h *history) count(n int, met map[string]int) {
	l, count, is := h.plainNearest(n)
	met[fmt.Sprint("told ", is)]++
	met[fmt.Sprint("count ", min(count, 10), " ", is)]++
	for _, other := range h.plainTellers(n) {
		alike := h.plainCount(n, other.at) == count
		switch {
		case other == l:
		case other.at == l.at:
			met["of one commit"]++
		case alike && h.puts[other.at].date == h.puts[l.at].date:
			met["of one date"]++
		case alike:
			met["of one count"]++
			met[fmt.Sprint("of one count, lesser name ", other.name < l.name)]++
		case h.puts[other.at].date > h.puts[l.at].date:
			met["later, but farther"]++
		case other.name < l.name:
			met["lesser name, but farther"]++
		}
	}
}

// P21.1 to P21.3, P0.1: random histories, tags and chains, against the words of the chapter.
func TestRandomHistories(t *testing.T) {
	r := rand.New(rand.NewSource(21))
	met := map[string]int{}
	for k := range 800 {
		h := newHistory(t)
		for range 1 + r.Intn(30) {
			h.grow(r)
		}
		for range 3 {
			if r.Intn(3) > 0 {
				h.write(r.Intn(len(h.puts)), r.Intn(len(h.puts)))
			}
		}
		if r.Intn(3) == 0 {
			h.write()
		}
		g := graph.New(h.s, h.c)
		if r.Intn(5) == 0 {
			g = graph.New(h.s, nil)
		}
		for range pick(r, []int{0, 0, 1, 2}) {
			h.grow(r)
		}
		for _, at := range r.Perm(40)[:r.Intn(12)] {
			h.tag(label{fmt.Sprint("v", at), r.Intn(len(h.puts))})
		}
		h.wantAll(fmt.Sprint("history ", k), g)
		for n := range h.puts {
			h.count(n, met)
		}
		met[fmt.Sprint("covered ", g.Covered())]++
		if t.Failed() {
			t.FailNow()
		}
	}
	for _, what := range []string{"told true", "told false", "count 0 true", "count 1 true", "count 2 true", "count 9 true", "count 10 true", "of one commit", "of one date", "of one count",
		"of one count, lesser name true", "of one count, lesser name false", "later, but farther", "lesser name, but farther", "covered true", "covered false"} {
		if met[what] < 50 {
			t.Error("met too seldom to tell much:", what, met)
		}
	}
}

// tagged is shapes with tags at some of them.
func tagged(t testing.TB) *history {
	t.Helper()
	h := shapes(t)
	h.tag(label{"l", 1}, label{"r", 2}, label{"z", 4}, label{"y", 6}, label{"x", 8}, label{"a", 0}, label{"b", 0})
	return h
}

// P0.1: layers that were spoilt, and a chain that a cut left, change nothing that is told.
func TestSpoiltLayersAndCuts(t *testing.T) {
	h := tagged(t)
	for _, n := range []int{0, 3, 7} {
		h.write(n)
	}
	h.write()
	first := h.d
	for _, name := range append(h.c.Names(), "chain") {
		file, _ := first.Read(name)
		for at := 0; at < len(file); at += 1 + len(file)/12 {
			h.d = first.Clone()
			h.must(h.d.Spoil(name, at, 4))
			h.open()
			h.wantAll(fmt.Sprint("spoilt ", name, " at ", at), graph.New(h.s, h.c))
		}
	}
	for after := range 7 {
		h.d = first.Clone()
		h.open()
		g := graph.New(h.s, h.c)
		h.must(h.d.Cut(after, 10))
		// Seven raw writes: the layer's file, the two of the swap, and four that go.
		if e := h.c.Merge(4); e != api.ErrDead {
			t.Fatal(after, e)
		}
		h.wantAll(fmt.Sprint("dead behind ", after), g)
		h.d.Restart()
		h.open()
		h.wantAll(fmt.Sprint("restarted behind ", after), graph.New(h.s, h.c))
	}
}

// Rule 4: a graph that was made ahead of writes, merges and drops tells the same as one made behind them.
func TestGraphsOfAllAges(t *testing.T) {
	h := tagged(t)
	var graphs []*graph.Graph
	made := func() { graphs = append(graphs, graph.New(h.s, h.c)) }
	made()
	h.write(2)
	made()
	h.write(7)
	made()
	h.must(h.c.Merge(2))
	made()
	h.must(h.c.Drop(1))
	made()
	h.write()
	h.commit(3, 11, 9)
	made()
	for at, g := range graphs {
		h.wantAll(fmt.Sprint("age ", at), g)
	}
}

// Rule 4: what is asked or done in between changes nothing that is told.
func TestAskedInBetween(t *testing.T) {
	h := tagged(t)
	h.write(7)
	g := graph.New(h.s, h.c)
	for k, do := range []func(){
		func() {},
		func() { h.write() },
		func() { h.must(h.c.Drop(1)) },
		func() { h.must(h.s.SetRef("l", h.puts[3].id)) },
		func() { g.Parents(h.puts[3].id); g.Content(h.puts[3].id) },
		func() { Count(g, 0, 1); Nearest(g, 5); Text(g, h.tree); Texts(g, h.puts[3].id, 0) },
		func() { other := tagged(t); other.wantAll("another one", graph.New(other.s, nil)) },
		g.Reset,
	} {
		do()
		h.wantAll(fmt.Sprint("step ", k), g)
	}
}

// The same is read each time, in the same order: what is asked for hangs on no map's order.
func TestSameReads(t *testing.T) {
	h := tagged(t)
	for what, g := range h.views() {
		var read []api.ID
		for k := range 10 {
			g.Reset()
			h.wantAll(what, g)
			if k > 0 && !slices.Equal(read, g.Read()) {
				t.Fatal(what, "something else is read")
			}
			read = g.Read()
		}
	}
}

// whole is a list with its spare room.
func whole[T any](list []T) []T { return list[:cap(list)] }

// roomy lays a list into a longer one, whose spare room has a mark in each place.
func roomy(list []api.ID) []api.ID {
	all := slices.Repeat([]api.ID{77}, len(list)+64)
	copy(all, list)
	return all[:len(list)]
}

// fill writes into all of a list, and into its spare room.
func fill[T any](list []T, with T) {
	for i := range whole(list) {
		whole(list)[i] = with
	}
}

// Rule 3: answers are new memory; what is handed in is not changed, its spare room neither, and not kept.
func TestMemory(t *testing.T) {
	h := tagged(t)
	for what, g := range h.views() {
		for _, numbers := range [][]int{{}, {0}, {9}, {4, 4}, {11, 3, 3, 0}, {7, 10, 12, 9, 5}} {
			ids := roomy(h.of(numbers...))
			was := slices.Clone(whole(ids))
			first, e := Texts(g, ids...)
			h.must(e)
			second, e := Texts(g, ids...)
			h.must(e)
			if !slices.Equal(whole(ids), was) {
				t.Error(what, numbers, "what is handed in is changed")
			}
			fill(first, "filled")
			fill(ids, 66)
			if !slices.Equal(second, h.plainTexts(numbers...)) {
				t.Error(what, numbers, "answers share memory")
			}
			h.wantTexts(what, g, numbers...)
			ids = roomy(append(h.of(numbers...), 0))
			was = slices.Clone(whole(ids))
			if _, e := Texts(g, ids...); e != api.ErrMissing || !slices.Equal(whole(ids), was) {
				t.Error(what, numbers, e, "with an error what is handed in is changed")
			}
		}
		h.wantAll(what, g)
	}
}

// Nothing is written, so that nothing hangs on the power.
func TestADeadDisk(t *testing.T) {
	h := tagged(t)
	all := h.views()
	h.must(h.d.Cut(0, 0))
	if e := h.s.SetTag("n", h.puts[3].id); e != api.ErrDead || !h.d.Dead() {
		t.Fatal(e)
	}
	for what, g := range all {
		h.wantAll(what, g)
	}
}

// Tags last: the store opened anew tells the same.
func TestOpenedAnew(t *testing.T) {
	h := tagged(t)
	h.write(7)
	h.open()
	h.wantAll("anew", graph.New(h.s, h.c))
	h.d = h.d.Clone()
	h.open()
	h.tag(label{"n", 3})
	h.wantAll("a clone", graph.New(h.s, h.c))
}

// Rule 5: calls end soon on thousands of commits, each with a tag.
func TestMany(t *testing.T) {
	h := newHistory(t)
	h.commit(0)
	for len(h.puts) < 3000 {
		h.commit(1, len(h.puts)-1)
	}
	n := len(h.puts)
	g := graph.New(h.s, nil)
	h.wantText("no tags", g, n-1, digits(h, n-1))
	var labels []label
	for k := range 3000 {
		labels = append(labels, label{fmt.Sprint("v", k), k})
	}
	h.tag(labels[:n-5]...)
	h.wantNearest("a line", g, n-1, fmt.Sprint("v", n-6), 5)
	h.wantCount("a line", g, n-1, 0, n-1)
	h.wantCount("a line", g, 0, n-1, 0)
	id := h.puts[n-1].id
	texts, e := Texts(g, slices.Repeat([]api.ID{id}, 50)...)
	if want := fmt.Sprintf("v%d-5-%s", n-6, digits(h, n-1)); e != api.OK || len(texts) != 50 || texts[0] != want || texts[49] != want {
		t.Error(texts, e, want)
	}
}

// Rule 5: many tags at one commit, and at many commits of which none is from another one.
func TestManyTags(t *testing.T) {
	h := line(t, 500)
	base := len(h.puts) - 1
	var sides []int
	for k := range 512 {
		sides = append(sides, h.commit(int64(k%7), base))
		h.tag(label{fmt.Sprint("s", 1000-k), sides[k]})
	}
	for k := range 2000 {
		h.tag(label{fmt.Sprint("t", k), base})
	}
	for len(sides) > 1 {
		sides = append(sides[8:], h.commit(9, sides[:8]...))
		if len(sides) < 8 {
			sides = []int{h.commit(9, sides...)}
		}
	}
	top := sides[0]
	for what, g := range map[string]*graph.Graph{"nil": graph.New(h.s, nil), "some": h.covers(base)} {
		// Of the side commits of date 6 the last one that was put has the least name.
		h.wantNearest(what, g, top, "s490", h.plainCount(top, base+1))
		h.wantTold(what, g, top)
		h.wantNearest(what, g, base, "t0", 0)
		h.wantTold(what, g, base+1)
	}
}

// Rule 5: many ways lead to each commit.
func TestManyWays(t *testing.T) {
	h := newHistory(t)
	h.commit(0)
	for len(h.puts) < 300 {
		k := len(h.puts) - 1
		h.commit(1, k)
		h.commit(1, k)
		h.commit(2, k+1, k+2)
	}
	h.tag(label{"v", 0}, label{"c", 31}, label{"b", 32}, label{"d", 150})
	last := len(h.puts) - 1
	for what, g := range map[string]*graph.Graph{"nil": graph.New(h.s, nil), "some": h.covers(last / 3), "all": h.covers()} {
		for _, n := range []int{0, 1, 30, 31, 32, 33, 34, 149, 150, 151, 152, last} {
			h.wantTold(what, g, n)
			h.wantCount(what, g, last, n, h.plainCount(last, n))
			h.wantCount(what, g, n, 32, h.plainCount(n, 32))
		}
		h.wantNearest(what, g, 33, "b", 2)
	}
}

// The ways that the chapter asks for.
func TestVariadic(t *testing.T) {
	if !reflect.TypeOf(Texts).IsVariadic() {
		t.Error("Texts isn't variadic")
	}
}
