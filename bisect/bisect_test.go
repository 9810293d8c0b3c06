package bisect

import (
	"bytes"
	"encoding/binary"
	"encoding/hex"
	"fmt"
	"hash/crc32"
	"math"
	"math/big"
	"math/rand"
	"reflect"
	"slices"
	"strconv"
	"strings"
	"testing"

	"forebear/api"
	"forebear/chain"
	"forebear/disk"
	"forebear/graph"
	"forebear/store"
)

// put is a commit as the tests put it: what is told is held against it, not against what the store tells.
type put struct {
	id      api.ID
	parents []int
	// The numbers of the commits from it, as bits.
	from *big.Int
}

// history is a disk with a store and a chain, and its commits in the order in which they were put; a commit's number is its place there.
type history struct {
	t          testing.TB
	d          *disk.Disk
	s          *store.Store
	c          *chain.Chain
	tree, blob api.ID
	puts       []put
	numbers    map[api.ID]int
}

// newHistory puts commits, told each by the numbers of its parents.
func newHistory(t testing.TB, parents ...[]int) *history {
	t.Helper()
	h := &history{t: t, d: disk.New(), numbers: map[api.ID]int{}}
	h.open()
	var e api.Errno
	h.blob, e = h.s.Blob([]byte("1"))
	h.must(e)
	h.tree, e = h.s.Tree(api.Entry{Path: "a", Blob: h.blob})
	h.must(e)
	for _, list := range parents {
		h.commit(list...)
	}
	return h
}

// open opens store and chain anew.
func (h *history) open() {
	h.t.Helper()
	var e api.Errno
	h.s, e = store.Open(h.d)
	h.must(e)
	h.c, e = chain.Open(h.d, h.s)
	h.must(e)
}

func (h *history) must(e api.Errno) {
	h.t.Helper()
	if e != api.OK {
		h.t.Fatal(e)
	}
}

// tryCommit puts one above those of these numbers; its date makes it unlike the others.
func (h *history) tryCommit(parents ...int) api.Errno {
	h.t.Helper()
	n := len(h.puts)
	id, e := h.s.Commit(api.Commit{Tree: h.tree, Parents: h.of(parents...), Date: int64(n)})
	if e != api.OK {
		return e
	}
	from := new(big.Int)
	for _, parent := range parents {
		from.Or(from, h.puts[parent].from)
	}
	from.SetBit(from, n, 1)
	h.puts = append(h.puts, put{id: id, parents: slices.Clone(parents), from: from})
	h.numbers[id] = n
	return api.OK
}

func (h *history) commit(parents ...int) int {
	h.t.Helper()
	h.must(h.tryCommit(parents...))
	return len(h.puts) - 1
}

// of is the IDs of the commits of these numbers.
func (h *history) of(numbers ...int) []api.ID {
	var ids []api.ID
	for _, n := range numbers {
		ids = append(ids, h.puts[n].id)
	}
	return ids
}

// sorted is the IDs of the commits of these numbers, rising.
func (h *history) sorted(numbers ...int) []api.ID {
	ids := h.of(numbers...)
	slices.Sort(ids)
	return ids
}

// number is -1 of what is no commit's ID.
func (h *history) number(id api.ID) int {
	if n, there := h.numbers[id]; there {
		return n
	}
	return -1
}

func (h *history) told(ids []api.ID) []int {
	var list []int
	for _, id := range ids {
		list = append(list, h.number(id))
	}
	return list
}

// isFrom: is the commit of number a from that of b?
func (h *history) isFrom(a, b int) bool { return h.puts[b].from.Bit(a) == 1 }

// write lays a layer of the commits of these numbers and their ancestors; without numbers of all.
func (h *history) write(numbers ...int) {
	h.t.Helper()
	h.must(h.c.Write(h.of(numbers...)...))
}

// covers makes a graph whose chain covers the commits of these numbers and their ancestors; without numbers all.
func (h *history) covers(numbers ...int) *graph.Graph {
	h.t.Helper()
	for range h.c.Names() {
		h.must(h.c.Drop(1))
	}
	h.write(numbers...)
	return graph.New(h.s, h.c)
}

// views are graphs of a history: without a chain, and of chains that cover none, some and all commits.
func (h *history) views() map[string]*graph.Graph {
	h.t.Helper()
	last := len(h.puts) - 1
	all := map[string]*graph.Graph{"nil": graph.New(h.s, nil), "none": graph.New(h.s, h.c)}
	all["a root"] = h.covers(0)
	all["some"] = h.covers(last/2, last/3)
	// Covered by several layers, of which each stands on the other.
	h.must(h.c.Drop(1))
	h.write(last / 3)
	h.write(last / 2)
	h.write()
	all["all, layers"] = graph.New(h.s, h.c)
	all["all"] = h.covers()
	return all
}

// few are the most unlike of views.
func (h *history) few() map[string]*graph.Graph {
	h.t.Helper()
	return map[string]*graph.Graph{"nil": graph.New(h.s, nil), "some": h.covers(len(h.puts) / 2), "all": h.covers()}
}

// strangers are IDs of no commit: of the tree and the blob, of nothing, and such as are near to those of commits.
func (h *history) strangers() []api.ID {
	ids := []api.ID{0, 1, 5, 1 << 63, math.MaxUint64, h.tree, h.blob}
	for _, p := range h.puts[:min(3, len(h.puts))] {
		ids = append(ids, p.id+1, p.id-1, ^p.id)
	}
	return slices.DeleteFunc(ids, func(id api.ID) bool { return h.number(id) >= 0 })
}

// said is an answer: 1 says good, 2 bad, 3 skip.
type said struct {
	says byte
	id   api.ID
}

func (a said) sealed() []byte {
	return sealed(10, binary.BigEndian.AppendUint64([]byte{a.says}, uint64(a.id)))
}

// sealed is a frame by the words of chapter 7.
func sealed(kind byte, body []byte) []byte {
	b := binary.BigEndian.AppendUint32(nil, uint32(len(body)))
	b = append(append(b, kind), body...)
	return binary.BigEndian.AppendUint32(b, crc32.ChecksumIEEE(b))
}

// plain is a bisection by the words of the chapter: the answers that were accepted, asked from the first to the last each time.
type plain struct {
	h        *history
	accepted []said
}

func (p plain) with(a said) plain { return plain{p.h, append(slices.Clip(p.accepted), a)} }

// of tells the commits of which was said so, in order.
func (p plain) of(says byte) []int {
	var list []int
	for _, a := range p.accepted {
		if a.says == says {
			list = append(list, p.h.number(a.id))
		}
	}
	return list
}

func (p plain) candidates() []int {
	bads := p.of(2)
	if len(bads) == 0 {
		return nil
	}
	left := new(big.Int).Set(p.h.puts[bads[len(bads)-1]].from)
	for _, n := range p.of(1) {
		left.AndNot(left, p.h.puts[n].from)
	}
	var list []int
	for n := range left.BitLen() {
		if left.Bit(n) == 1 {
			list = append(list, n)
		}
	}
	return list
}

func (p plain) weight(n int, left []int) int {
	w := 0
	for _, m := range left {
		if p.h.isFrom(m, n) {
			w++
		}
	}
	return min(w, len(left)-w)
}

func (p plain) state() (State, api.ID) {
	left, bads, skipped := p.candidates(), p.of(2), p.of(3)
	if len(bads) == 0 {
		return Waiting, 0
	}
	if len(left) == 1 {
		return Found, p.h.puts[left[0]].id
	}
	best := -1
	for _, n := range left {
		if n == bads[len(bads)-1] || slices.Contains(skipped, n) {
			continue
		}
		if best < 0 || p.weight(n, left) > p.weight(best, left) || p.weight(n, left) == p.weight(best, left) && p.h.puts[n].id < p.h.puts[best].id {
			best = n
		}
	}
	if best < 0 {
		return Stuck, 0
	}
	return Offer, p.h.puts[best].id
}

// check is the error of an answer, the disk's aside.
func (p plain) check(a said) api.Errno {
	if p.h.number(a.id) < 0 {
		return api.ErrMissing
	}
	then := p.with(a)
	if len(then.of(2)) > 0 && len(then.candidates()) == 0 {
		return api.ErrContradiction
	}
	return api.OK
}

func (p plain) file() []byte {
	var b []byte
	for _, a := range p.accepted {
		b = append(b, a.sealed()...)
	}
	return b
}

// readPlain is the answers of the frames with which a file begins, as far as they are frames and fit.
func readPlain(h *history, file []byte) plain {
	p := plain{h: h}
	for len(file) >= 18 && bytes.Equal(file[:5], []byte{0, 0, 0, 9, 10}) {
		a := said{file[5], api.ID(binary.BigEndian.Uint64(file[6:]))}
		if !bytes.Equal(a.sealed(), file[:18]) || a.says < 1 || a.says > 3 || p.check(a) != api.OK {
			break
		}
		p.accepted = append(p.accepted, a)
		file = file[18:]
	}
	return p
}

// tell is all that is on a disk.
func tell(d *disk.Disk) string {
	var b strings.Builder
	for _, name := range d.Names() {
		file, _ := d.Read(name)
		fmt.Fprintln(&b, name, file)
	}
	fmt.Fprintln(&b, d.Writes(), d.Dead())
	return b.String()
}

func fileOf(d *disk.Disk) []byte {
	file, _ := d.Read("bisect")
	return file
}

// world is a bisection, and the plain one beside it, against which each call is held.
type world struct {
	t    testing.TB
	what string
	h    *history
	d    *disk.Disk
	g    *graph.Graph
	b    *Bisect
	p    plain
}

func newWorld(t testing.TB, what string, h *history, d *disk.Disk, g *graph.Graph) *world {
	t.Helper()
	w := &world{t: t, what: what, h: h, d: d, g: g}
	if e := w.open(); e != api.OK {
		t.Fatal(what, e)
	}
	return w
}

// open: P20.1. With an error the world stays as it was.
func (w *world) open() api.Errno {
	w.t.Helper()
	like := w.d.Clone()
	file := fileOf(w.d)
	p := readPlain(w.h, file)
	want := api.OK
	if size := len(p.accepted) * 18; size < len(file) {
		want = like.Trim("bisect", size)
	}
	b, e := Open(w.d, w.g)
	if e != want || (b == nil) != (want != api.OK) {
		w.t.Fatalf("%s: Open: %v, %v, want %v", w.what, b != nil, e, want)
	}
	if tell(w.d) != tell(like) {
		w.t.Errorf("%s: Open has written something else", w.what)
	}
	if e == api.OK {
		w.b, w.p = b, p
		w.wantTold()
	}
	return e
}

// wantTold: P20.3.
func (w *world) wantTold() {
	w.t.Helper()
	was := tell(w.d)
	state, id := w.b.State()
	if s, n := w.p.state(); state != s || id != n {
		w.t.Errorf("%s: State of %v: %v %d, want %v %d", w.what, w.answers(), state, w.h.number(id), s, w.h.number(n))
	}
	if got, want := w.b.Candidates(), w.h.sorted(w.p.candidates()...); !slices.Equal(got, want) {
		w.t.Errorf("%s: Candidates of %v: %v, want %v", w.what, w.answers(), w.h.told(got), w.h.told(want))
	}
	if tell(w.d) != was {
		w.t.Errorf("%s: what tells has written", w.what)
	}
}

func (w *world) answers() string {
	var b strings.Builder
	for _, a := range w.p.accepted {
		fmt.Fprint(&b, []string{1: "good ", 2: "bad ", 3: "skip "}[a.says], w.h.number(a.id), ", ")
	}
	return b.String()
}

// wantCall holds a call against answers that are given one behind the other, up to the first error: P20.2, P20.5.
func (w *world) wantCall(name string, call func() api.Errno, answers ...said) api.Errno {
	w.t.Helper()
	like := w.d.Clone()
	p, want := w.p, api.OK
	for _, a := range answers {
		if want = p.check(a); want == api.OK {
			want = like.Append("bisect", a.sealed())
		}
		if want != api.OK {
			break
		}
		p = p.with(a)
	}
	e := call()
	if e != want {
		w.t.Errorf("%s: behind %v%s: %v, want %v", w.what, w.answers(), name, e, want)
	}
	w.p = p
	if tell(w.d) != tell(like) {
		w.t.Errorf("%s: %v%s: something else is written", w.what, w.answers(), name)
	}
	w.wantTold()
	return e
}

func (w *world) good(id api.ID) api.Errno {
	w.t.Helper()
	return w.wantCall(fmt.Sprint("Good ", w.h.number(id)), func() api.Errno { return w.b.Good(id) }, said{1, id})
}

func (w *world) bad(id api.ID) api.Errno {
	w.t.Helper()
	return w.wantCall(fmt.Sprint("Bad ", w.h.number(id)), func() api.Errno { return w.b.Bad(id) }, said{2, id})
}

func (w *world) skip(ids ...api.ID) api.Errno {
	w.t.Helper()
	var answers []said
	for _, id := range ids {
		answers = append(answers, said{3, id})
	}
	return w.wantCall(fmt.Sprint("Skip ", w.h.told(ids)), func() api.Errno { return w.b.Skip(ids...) }, answers...)
}

func (w *world) give(a said) api.Errno {
	w.t.Helper()
	switch a.says {
	case 1:
		return w.good(a.id)
	case 2:
		return w.bad(a.id)
	}
	return w.skip(a.id)
}

// clear: P20.4, P20.5.
func (w *world) clear() api.Errno {
	w.t.Helper()
	like := w.d.Clone()
	want := like.Remove("bisect")
	if want == api.ErrMissing {
		want = api.OK
	}
	e := w.b.Clear()
	if e != want {
		w.t.Errorf("%s: Clear behind %v: %v, want %v", w.what, w.answers(), e, want)
	}
	if want == api.OK {
		w.p.accepted = nil
	}
	if tell(w.d) != tell(like) {
		w.t.Errorf("%s: Clear has written something else", w.what)
	}
	w.wantTold()
	return e
}

// do is a call by its words: good 1, bad 3, skip 1 2, clear, open; ? is an ID of no commit.
func (w *world) do(call string) api.Errno {
	w.t.Helper()
	words := strings.Fields(call)
	var ids []api.ID
	for _, word := range words[1:] {
		if word == "?" {
			ids = append(ids, w.h.tree)
			continue
		}
		n, err := strconv.Atoi(word)
		if err != nil {
			w.t.Fatal(err)
		}
		ids = append(ids, w.h.puts[n].id)
	}
	switch words[0] {
	case "good":
		return w.good(ids[0])
	case "bad":
		return w.bad(ids[0])
	case "skip":
		return w.skip(ids...)
	case "clear":
		return w.clear()
	}
	return w.open()
}

// step is a call whose outcome is told by hand, not by the plain evaluator: the error, the State, and the Candidates; what is offered or found is the one of at with the least ID.
type step struct {
	call  string
	e     api.Errno
	state State
	at    []int
	left  []int
}

func (w *world) wantSteps(steps ...step) {
	w.t.Helper()
	for k, s := range steps {
		if e := w.do(s.call); e != s.e {
			w.t.Errorf("%s: step %d: %s: %v, want %v", w.what, k, s.call, e, s.e)
		}
		var want api.ID
		if len(s.at) > 0 {
			want = w.h.sorted(s.at...)[0]
		}
		if state, id := w.b.State(); state != s.state || id != want {
			w.t.Errorf("%s: step %d: %s: State %v %d, want %v %d", w.what, k, s.call, state, w.h.number(id), s.state, w.h.number(want))
		}
		if got := w.b.Candidates(); !slices.Equal(got, w.h.sorted(s.left...)) {
			w.t.Errorf("%s: step %d: %s: Candidates %v, want %v", w.what, k, s.call, w.h.told(got), s.left)
		}
	}
}

// wantByHand takes the steps on each view of a history, without and with an opening anew behind each of them.
func wantByHand(t *testing.T, h *history, steps ...step) {
	t.Helper()
	for what, g := range h.views() {
		newWorld(t, what, h, disk.New(), g).wantSteps(steps...)
		w := newWorld(t, what+", opened anew", h, disk.New(), g)
		for _, s := range steps {
			w.wantSteps(s)
			again := s
			again.call, again.e = "open", api.OK
			w.wantSteps(again)
		}
	}
}

func none(call string, e api.Errno) step { return step{call, e, Waiting, nil, nil} }

func line(t testing.TB, n int) *history {
	t.Helper()
	h := newHistory(t, nil)
	for k := 1; k < n; k++ {
		h.commit(k - 1)
	}
	return h
}

// The chapter's examples.
func TestExamples(t *testing.T) {
	h := line(t, 4)
	wantByHand(t, h,
		step{"bad 3", api.OK, Offer, []int{1}, []int{0, 1, 2, 3}},
		step{"good 1", api.OK, Offer, []int{2}, []int{2, 3}},
		step{"good 2", api.OK, Found, []int{3}, []int{3}},
	)
	wantByHand(t, h,
		none("good 3", api.OK),
		none("bad 1", api.ErrContradiction),
	)
}

// The document's example: the middle is offered, another one when it is skipped; when all others are skipped the candidates are listed.
func TestSkippedOneByOne(t *testing.T) {
	h := line(t, 7)
	wantByHand(t, h,
		step{"bad 6", api.OK, Offer, []int{2, 3}, []int{0, 1, 2, 3, 4, 5, 6}}, // 3 and 4 of 7
		step{"good 0", api.OK, Offer, []int{3}, []int{1, 2, 3, 4, 5, 6}},
		step{"skip 3", api.OK, Offer, []int{2, 4}, []int{1, 2, 3, 4, 5, 6}},
		step{"skip 2 4", api.OK, Offer, []int{1, 5}, []int{1, 2, 3, 4, 5, 6}},
		step{"skip 1", api.OK, Offer, []int{5}, []int{1, 2, 3, 4, 5, 6}},
		step{"skip 5", api.OK, Stuck, nil, []int{1, 2, 3, 4, 5, 6}},
		step{"skip 6", api.OK, Stuck, nil, []int{1, 2, 3, 4, 5, 6}},
		step{"good 4", api.OK, Stuck, nil, []int{5, 6}},
		step{"bad 5", api.OK, Found, []int{5}, []int{5}},
		step{"clear", api.OK, Waiting, nil, nil},
	)
}

// P20.2, P20.3: a root alone is found as soon as it is bad, whatever is skipped.
func TestARootAlone(t *testing.T) {
	h := line(t, 1)
	found := func(call string, e api.Errno) step { return step{call, e, Found, []int{0}, []int{0}} }
	wantByHand(t, h,
		none("skip 0", api.OK),
		found("bad 0", api.OK),
		found("skip 0 0", api.OK),
		found("good 0", api.ErrContradiction),
		found("bad 0", api.OK),
		found("bad ?", api.ErrMissing),
	)
	wantByHand(t, h,
		none("good 0", api.OK),
		none("good 0", api.OK),
		none("bad 0", api.ErrContradiction),
		none("clear", api.OK),
		found("bad 0", api.OK),
	)
}

// P20.2: good answers before any bad one.
func TestGoodFirst(t *testing.T) {
	// 0 is below 1, 2 and 3, one above the other; 4 is above 1, 5 is another root.
	h := newHistory(t, nil, []int{0}, []int{1}, []int{2}, []int{1}, nil)
	wantByHand(t, h,
		none("good 1", api.OK),
		none("good 5", api.OK),
		none("good 1", api.OK),
		none("good 4", api.OK),
		none("bad 4", api.ErrContradiction), // the good one itself
		none("bad 1", api.ErrContradiction), // an ancestor of one
		none("bad 0", api.ErrContradiction), // of each
		none("bad 5", api.ErrContradiction),
		none("good ?", api.ErrMissing),
		step{"bad 3", api.OK, Offer, []int{2}, []int{2, 3}}, // a kid of one
	)
	wantByHand(t, h,
		none("good 3", api.OK),
		step{"bad 4", api.OK, Found, []int{4}, []int{4}},
	)
	wantByHand(t, h,
		none("good 3", api.OK),
		step{"bad 5", api.OK, Found, []int{5}, []int{5}},
	)
}

// P20.2: good answers behind a bad one: on it, on its kids, its ancestors, and beside it.
func TestGoodBehindBad(t *testing.T) {
	// 0 to 5 in a line; 6 above 2, 7 above 6 and 4; 8 another root; 9 above 5 and 8.
	h := newHistory(t, nil, []int{0}, []int{1}, []int{2}, []int{3}, []int{4}, []int{2}, []int{6, 4}, nil, []int{8, 5})
	all := []int{0, 1, 2, 3, 4}
	wantByHand(t, h,
		step{"bad 4", api.OK, Offer, []int{1, 2}, all},
		step{"good 4", api.ErrContradiction, Offer, []int{1, 2}, all},
		step{"good 5", api.ErrContradiction, Offer, []int{1, 2}, all}, // its kid
		step{"good 9", api.ErrContradiction, Offer, []int{1, 2}, all}, // a kid of that
		step{"good 7", api.ErrContradiction, Offer, []int{1, 2}, all}, // another kid
		step{"good ?", api.ErrMissing, Offer, []int{1, 2}, all},
		step{"good 8", api.OK, Offer, []int{1, 2}, all},      // what has nothing to do with it
		step{"good 6", api.OK, Offer, []int{3}, []int{3, 4}}, // what has ancestors that it has, too
		step{"good 2", api.OK, Offer, []int{3}, []int{3, 4}}, // what is from a good one already
		step{"good 3", api.OK, Found, []int{4}, []int{4}},    // the last one beside it
		step{"good 3", api.OK, Found, []int{4}, []int{4}},    // once more
		step{"bad 3", api.ErrContradiction, Found, []int{4}, []int{4}},
		step{"bad 4", api.OK, Found, []int{4}, []int{4}},
	)
}

// P20.2: the bad commit is that of the latest bad answer, wherever it is.
func TestBadBehindBad(t *testing.T) {
	// 0 to 5 in a line; 6 above 2, 7 above 6; 8 another root.
	h := newHistory(t, nil, []int{0}, []int{1}, []int{2}, []int{3}, []int{4}, []int{2}, []int{6}, nil)
	wantByHand(t, h,
		step{"bad 3", api.OK, Offer, []int{1}, []int{0, 1, 2, 3}},
		step{"bad 3", api.OK, Offer, []int{1}, []int{0, 1, 2, 3}},
		step{"bad 1", api.OK, Offer, []int{0}, []int{0, 1}},                     // an ancestor
		step{"bad 5", api.OK, Offer, []int{2}, []int{0, 1, 2, 3, 4, 5}},         // a kid
		step{"bad 7", api.OK, Offer, []int{1, 2}, []int{0, 1, 2, 6, 7}},         // beside it
		step{"good 1", api.OK, Offer, []int{2, 6}, []int{2, 6, 7}},              // 1 and 2 of 3
		step{"bad 1", api.ErrContradiction, Offer, []int{2, 6}, []int{2, 6, 7}}, // good
		step{"bad 0", api.ErrContradiction, Offer, []int{2, 6}, []int{2, 6, 7}}, // an ancestor of a good one
		step{"bad ?", api.ErrMissing, Offer, []int{2, 6}, []int{2, 6, 7}},
		step{"bad 8", api.OK, Found, []int{8}, []int{8}},
		step{"good 7", api.OK, Found, []int{8}, []int{8}},
		step{"bad 5", api.OK, Offer, []int{3, 4}, []int{3, 4, 5}},
		step{"bad 8", api.OK, Found, []int{8}, []int{8}},
	)
}

// P20.2, P20.3: Skip: none, the same several times, those that are no candidates and become some, candidates that become none, the bad commit.
func TestSkip(t *testing.T) {
	h := newHistory(t, nil, []int{0}, []int{1}, []int{2}, []int{3}, []int{4}, []int{2})
	wantByHand(t, h,
		none("skip", api.OK),
		none("skip 1", api.OK),
		none("skip 4 4 4", api.OK),
		step{"bad 3", api.OK, Offer, []int{0, 2}, []int{0, 1, 2, 3}}, // 1 is the middle, 0 and 2 weigh alike
		step{"skip", api.OK, Offer, []int{0, 2}, []int{0, 1, 2, 3}},
		step{"skip 3", api.OK, Offer, []int{0, 2}, []int{0, 1, 2, 3}}, // the bad one
		step{"skip 6 5", api.OK, Offer, []int{0, 2}, []int{0, 1, 2, 3}},
		step{"skip 0 0", api.OK, Offer, []int{2}, []int{0, 1, 2, 3}},
		step{"good 1", api.OK, Offer, []int{2}, []int{2, 3}},      // candidates that were skipped are none any more
		step{"bad 5", api.OK, Offer, []int{2}, []int{2, 3, 4, 5}}, // 3 and 4 were skipped when they were none
		step{"skip 2", api.OK, Stuck, nil, []int{2, 3, 4, 5}},
		step{"good 3", api.OK, Stuck, nil, []int{4, 5}},
		step{"bad 4", api.OK, Found, []int{4}, []int{4}}, // the last one, though it is skipped
		step{"bad 6", api.OK, Found, []int{6}, []int{6}},
	)
}

// P20.2: behind the first error of Skip nothing is done, and what is ahead of it is accepted.
func TestSkipUpToAnError(t *testing.T) {
	h := line(t, 6)
	all := []int{0, 1, 2, 3, 4, 5}
	wantByHand(t, h,
		step{"bad 5", api.OK, Offer, []int{2}, all},
		step{"skip ? 2", api.ErrMissing, Offer, []int{2}, all},
		step{"skip ?", api.ErrMissing, Offer, []int{2}, all},
		step{"skip 2 ? 1", api.ErrMissing, Offer, []int{1, 3}, all},
		step{"skip 1 3 0 ?", api.ErrMissing, Offer, []int{4}, all},
		step{"skip 3 3 ? ? 4", api.ErrMissing, Offer, []int{4}, all},
	)
	w := newWorld(t, "frames", h, disk.New(), graph.New(h.s, nil))
	w.do("skip 2 2 ? 1")
	if want := slices.Repeat(said{3, h.puts[2].id}.sealed(), 2); !bytes.Equal(fileOf(w.d), want) {
		t.Errorf("%x, want %x", fileOf(w.d), want)
	}
}

// P20.3: merges of two and more parents, and several roots: who weighs how much.
func TestMerges(t *testing.T) {
	// A root 0; 1 to 3 above it, each above 0 alone; 4 merges them; 5 and 6 in a line above it.
	h := newHistory(t, nil, []int{0}, []int{0}, []int{0}, []int{3, 1, 2}, []int{4}, []int{5})
	wantByHand(t, h,
		step{"bad 4", api.OK, Offer, []int{1, 2, 3}, []int{0, 1, 2, 3, 4}}, // 2 of 5 each; 0: 1
		step{"good 0", api.OK, Offer, []int{1, 2, 3}, []int{1, 2, 3, 4}},
		step{"bad 6", api.OK, Offer, []int{4}, []int{1, 2, 3, 4, 5, 6}}, // 4: 4 of 6, as 2 are left
		step{"good 2", api.OK, Offer, []int{4}, []int{1, 3, 4, 5, 6}},   // 4: 3 of 5
		step{"skip 4", api.OK, Offer, []int{1, 3, 5}, []int{1, 3, 4, 5, 6}},
		step{"bad 5", api.OK, Offer, []int{1, 3}, []int{1, 3, 4, 5}},
		step{"good 1", api.OK, Offer, []int{3}, []int{3, 4, 5}},
		step{"bad 3", api.OK, Found, []int{3}, []int{3}},
	)
	// Two roots 0 and 1, a line 2, 3 above 0, 4 above 1; 5 merges 3 and 4; 6 is above 3 alone: nothing leads to it from 5.
	h = newHistory(t, nil, nil, []int{0}, []int{2}, []int{1}, []int{3, 4}, []int{3})
	wantByHand(t, h,
		step{"bad 5", api.OK, Offer, []int{3}, []int{0, 1, 2, 3, 4, 5}},
		step{"good 6", api.OK, Offer, []int{1, 4}, []int{1, 4, 5}},
		step{"bad 4", api.OK, Offer, []int{1}, []int{1, 4}},
		step{"bad 6", api.ErrContradiction, Offer, []int{1}, []int{1, 4}},
	)
	// Eight parents, of which all are roots.
	h = newHistory(t, nil, nil, nil, nil, nil, nil, nil, nil, []int{0, 1, 2, 3, 4, 5, 6, 7})
	wantByHand(t, h,
		step{"bad 8", api.OK, Offer, []int{0, 1, 2, 3, 4, 5, 6, 7}, []int{0, 1, 2, 3, 4, 5, 6, 7, 8}},
		step{"good 3", api.OK, Offer, []int{0, 1, 2, 4, 5, 6, 7}, []int{0, 1, 2, 4, 5, 6, 7, 8}},
		step{"skip 0 1 2 4 5 7", api.OK, Offer, []int{6}, []int{0, 1, 2, 4, 5, 6, 7, 8}},
		step{"bad 6", api.OK, Found, []int{6}, []int{6}},
	)
	// A ladder: each rung is two commits and their merge. A commit to which several ways lead counts once.
	h = newHistory(t, nil, []int{0}, []int{0}, []int{1, 2}, []int{3}, []int{3}, []int{4, 5})
	wantByHand(t, h,
		step{"bad 6", api.OK, Offer, []int{3}, []int{0, 1, 2, 3, 4, 5, 6}}, // 3: 4 of 7, as 3 are left
		step{"bad 3", api.OK, Offer, []int{1, 2}, []int{0, 1, 2, 3}},
		step{"good 2", api.OK, Offer, []int{1}, []int{1, 3}},
	)
}

// P20.3: w is counted among the candidates alone, not among all ancestors.
func TestWeightsAmongCandidates(t *testing.T) {
	// 0 to 3 in a line, 4 above 3, 5 to 7 in a line above 0, 8 merges 4 and 7, 9 above 8.
	h := newHistory(t, nil, []int{0}, []int{1}, []int{2}, []int{3}, []int{0}, []int{5}, []int{6}, []int{4, 7}, []int{8})
	wantByHand(t, h,
		step{"bad 9", api.OK, Offer, []int{4}, []int{0, 1, 2, 3, 4, 5, 6, 7, 8, 9}}, // 4: 5 of 10
		step{"good 3", api.OK, Offer, []int{7}, []int{4, 5, 6, 7, 8, 9}},            // 7: 3 of 6, though 4 has more ancestors
		step{"good 5", api.OK, Offer, []int{7}, []int{4, 6, 7, 8, 9}},               // 7: 2 of 5; 8: 4
		step{"bad 8", api.OK, Offer, []int{7}, []int{4, 6, 7, 8}},                   // 7: 2 of 4
	)
}

// P20.3: the same commits in all orders of their IDs: the least one is offered, not the first or the last that was put.
func TestLeastID(t *testing.T) {
	firsts := map[int]int{}
	for k := range 40 {
		h := newHistory(t)
		for range k {
			h.commit() // so that the others have other IDs
		}
		for range 5 {
			h.commit()
		}
		top := h.commit(k, k+1, k+2, k+3, k+4)
		w := newWorld(t, fmt.Sprint(k), h, disk.New(), graph.New(h.s, nil))
		w.wantSteps(step{fmt.Sprint("bad ", top), api.OK, Offer, []int{k, k + 1, k + 2, k + 3, k + 4}, []int{k, k + 1, k + 2, k + 3, k + 4, top}})
		_, id := w.b.State()
		firsts[h.number(id)-k]++
	}
	if len(firsts) < 5 {
		t.Error("the least ID is at the same place too often:", firsts)
	}
}

// P20.2: no commit: in each call, at each place, in each state.
func TestMissing(t *testing.T) {
	h := line(t, 6)
	for what, g := range h.views() {
		w := newWorld(t, what, h, disk.New(), g)
		for _, call := range []string{"open", "good 0", "bad 5", "skip 3", "good 3", "good 4", "clear", "bad 2"} {
			w.do(call)
			for _, id := range h.strangers() {
				g.Reset()
				was := tell(w.d)
				if e := w.b.Good(id); e != api.ErrMissing {
					t.Error(what, "Good", id, e)
				}
				if e := w.b.Bad(id); e != api.ErrMissing {
					t.Error(what, "Bad", id, e)
				}
				if e := w.b.Skip(id, h.puts[0].id); e != api.ErrMissing {
					t.Error(what, "Skip", id, e)
				}
				if g.Visits()+g.Trees() != 0 || tell(w.d) != was {
					t.Error(what, "something was read or written")
				}
				w.good(id)
				w.bad(id)
				w.skip(id)
				w.skip(id, h.puts[0].id)
				w.skip(h.puts[1].id, id, h.puts[0].id)
			}
		}
	}
}

func unhex(t *testing.T, s string) []byte {
	t.Helper()
	b, err := hex.DecodeString(strings.ReplaceAll(s, " ", ""))
	if err != nil {
		t.Fatal(err)
	}
	return b
}

// The file, byte by byte: one frame for each accepted answer, in order.
func TestFile(t *testing.T) {
	if KAnswer != 10 || File != "bisect" || Waiting != 0 || Offer != 1 || Stuck != 2 || Found != 3 {
		t.Error("constants")
	}
	h := line(t, 3)
	w := newWorld(t, "file", h, h.d, graph.New(h.s, nil))
	for _, call := range []string{"good 0", "good ?", "bad 2", "bad 0", "skip 1 ? 0", "skip", "bad 2", "good 2", "good 0"} {
		w.do(call)
	}
	var want []byte
	for _, a := range []struct {
		says byte
		n    int
	}{{1, 0}, {2, 2}, {3, 1}, {2, 2}, {1, 0}} {
		frame := unhex(t, "00 00 00 09 0a")
		frame = append(frame, a.says)
		frame = append(frame, unhex(t, fmt.Sprintf("%016x", uint64(h.puts[a.n].id)))...)
		frame = binary.BigEndian.AppendUint32(frame, crc32.ChecksumIEEE(frame))
		want = append(want, frame...)
	}
	if !bytes.Equal(fileOf(h.d), want) {
		t.Errorf("%x, want %x", fileOf(h.d), want)
	}
	if len(want) != 5*18 {
		t.Error(len(want))
	}
}

// P20.2: each accepted answer is one raw write, each other one none; nothing but the file is touched.
func TestRawWrites(t *testing.T) {
	h := line(t, 5)
	h.write(2)
	g := graph.New(h.s, h.c)
	w := newWorld(t, "raw writes", h, h.d, g)
	others := func() string {
		var b strings.Builder
		for _, name := range h.d.Names() {
			if name != "bisect" {
				file, _ := h.d.Read(name)
				fmt.Fprintln(&b, name, file)
			}
		}
		fmt.Fprintln(&b, h.s.Commits(), h.s.Refs(), h.s.Tags(), h.c.Names(), h.c.Rows())
		return b.String()
	}
	was := others()
	for _, c := range []struct {
		call   string
		writes int
	}{
		{"good 0", 1}, {"good 0", 1}, {"bad 4", 1}, {"bad 4", 1}, {"good 4", 0}, {"bad 0", 0}, {"good ?", 0}, {"bad ?", 0},
		{"skip", 0}, {"skip 2", 1}, {"skip 2 2 3", 3}, {"skip ?", 0}, {"skip 1 ? 1", 1}, {"open", 0}, {"clear", 1}, {"clear", 0}, {"open", 0}, {"bad 1", 1},
	} {
		n := h.d.Writes()
		w.do(c.call)
		if h.d.Writes() != n+c.writes {
			t.Errorf("%s: %d raw writes, want %d", c.call, h.d.Writes()-n, c.writes)
		}
		if others() != was {
			t.Errorf("%s changes something else", c.call)
		}
	}
}

// P20.1: no file, and one without bytes.
func TestOpenOfNothing(t *testing.T) {
	h := line(t, 3)
	w := newWorld(t, "no file", h, disk.New(), graph.New(h.s, nil))
	if _, there := w.d.Read("bisect"); there || w.d.Writes() != 0 {
		t.Error("Open has made a file")
	}
	w.wantSteps(none("open", api.OK), step{"bad 2", api.OK, Offer, []int{0, 1}, []int{0, 1, 2}})
	d := disk.New()
	h.must(d.Put("bisect"))
	w = newWorld(t, "no bytes", h, d, graph.New(h.s, nil))
	if d.Writes() != 1 {
		t.Error("Open has written")
	}
	w.wantSteps(none("open", api.OK), step{"bad 2", api.OK, Offer, []int{0, 1}, []int{0, 1, 2}})
	// A store without commits.
	h = newHistory(t)
	w = newWorld(t, "no commits", h, disk.New(), graph.New(h.s, nil))
	for _, id := range h.strangers() {
		w.good(id)
		w.bad(id)
		w.skip(id)
	}
	w.wantSteps(none("open", api.OK), none("clear", api.OK), none("skip", api.OK))
}

// diskWith has a file of these bytes.
func diskWith(t testing.TB, parts ...[]byte) *disk.Disk {
	t.Helper()
	d := disk.New()
	if e := d.Put("bisect", parts...); e != api.OK {
		t.Fatal(e)
	}
	return d
}

// row are good answers in a line of ten: with them 5 to 8 are left, and 6 is skipped.
func row(h *history) []said {
	return []said{{3, h.puts[6].id}, {1, h.puts[1].id}, {2, h.puts[9].id}, {1, h.puts[4].id}, {2, h.puts[8].id}}
}

// P20.1: a file that is cut off at each of its bytes, and has others behind it.
func TestOpenOfAFileCutOffAtEachByte(t *testing.T) {
	h := line(t, 10)
	g := h.covers(4)
	file := plain{h, row(h)}.file()
	for size := range len(file) + 1 {
		for _, more := range [][]byte{nil, {0}, {0, 0, 0, 9, 10, 1}, []byte("more bytes than a frame has, but none of one")} {
			d := diskWith(t, file[:size], more)
			w := newWorld(t, fmt.Sprint("cut off at ", size), h, d, g)
			// A piece of a frame doesn't become one by what stands behind it here.
			if want := size / 18; len(w.p.accepted) != want || len(fileOf(d)) != want*18 {
				t.Errorf("cut off at %d: %d answers, %d bytes", size, len(w.p.accepted), len(fileOf(d)))
			}
			if trims := min(1, size%18+len(more)); d.Writes() != 1+trims {
				t.Errorf("cut off at %d: %d raw writes", size, d.Writes()-1)
			}
			w.skip(h.puts[0].id)
			w.open()
		}
	}
}

// P20.1: a byte is changed: the frames ahead of it alone stay, but where it makes another fitting frame.
func TestOpenWithEachByteChanged(t *testing.T) {
	h := line(t, 10)
	g := graph.New(h.s, nil)
	file := plain{h, row(h)}.file()
	for at := range file {
		for _, mask := range []byte{1, 2, 3, 128, 255} {
			d := diskWith(t, file)
			h.must(d.Spoil("bisect", at, mask))
			w := newWorld(t, fmt.Sprint("changed at ", at), h, d, g)
			if len(w.p.accepted) != at/18 || len(fileOf(d)) != at/18*18 {
				t.Errorf("changed at %d: %d answers", at, len(w.p.accepted))
			}
		}
	}
}

// unfit are frames that fit behind none of the first three answers of row.
func unfit(h *history) map[string][]byte {
	id := func(n int) []byte { return binary.BigEndian.AppendUint64(nil, uint64(h.puts[n].id)) }
	body := func(says byte, parts ...[]byte) []byte { return append([]byte{says}, slices.Concat(parts...)...) }
	all := map[string][]byte{
		"no bytes":             sealed(10, nil),
		"too few bytes":        sealed(10, body(1, id(2)[:7])),
		"what it says alone":   sealed(10, body(1)),
		"too many bytes":       sealed(10, body(1, id(2), []byte{0})),
		"many too many":        sealed(10, body(1, id(2), id(2), id(2))),
		"an ID alone":          sealed(10, id(2)),
		"as many as fit":       sealed(10, make([]byte, 8192)),
		"too many for a frame": sealed(10, make([]byte, 8193)),
		"good on the bad one":  said{1, h.puts[9].id}.sealed(),
		"bad on a good one":    said{2, h.puts[1].id}.sealed(),
		"bad below a good one": said{2, h.puts[0].id}.sealed(),
		"good above the bad":   said{1, h.puts[10].id}.sealed(),
		"a wrong sum":          append(said{1, h.puts[2].id}.sealed()[:17], 0),
		"no frame":             []byte("no frame at all, but rather many bytes"),
	}
	for _, kind := range []byte{0, 1, 2, 3, 4, 5, 9, 11, 255} {
		all[fmt.Sprint("kind ", kind)] = sealed(kind, body(1, id(2)))
	}
	for _, says := range []byte{0, 4, 5, 10, 128, 254, 255} {
		all[fmt.Sprint("says ", says)] = sealed(10, body(says, id(2)))
	}
	for _, stranger := range h.strangers() {
		for _, says := range []byte{1, 2, 3} {
			all[fmt.Sprint("of no commit ", says, " ", stranger)] = said{says, stranger}.sealed()
		}
	}
	// The ID's bytes, the lowest first.
	all["turned round"] = sealed(10, body(1, binary.LittleEndian.AppendUint64(nil, uint64(h.puts[2].id))))
	return all
}

// P20.1: what doesn't fit is cut off, with fitting frames behind it.
func TestOpenOfFramesThatDoNotFit(t *testing.T) {
	h := line(t, 11)
	ahead, behind := plain{h, row(h)[:3]}.file(), plain{h, row(h)[3:]}.file()
	for view, g := range h.few() {
		for what, frame := range unfit(h) {
			d := diskWith(t, ahead, frame, behind)
			w := newWorld(t, view+", "+what, h, d, g)
			if !bytes.Equal(fileOf(d), ahead) || d.Writes() != 2 || len(w.b.Candidates()) != 8 {
				t.Errorf("%s: %x is left, by %d raw writes, with %v", what, fileOf(d), d.Writes()-1, h.told(w.b.Candidates()))
			}
			w.do("good 4")
			w.do("bad 8")
			w.do("open")
			if !bytes.Equal(fileOf(d), append(slices.Clip(ahead), behind...)) || len(w.b.Candidates()) != 4 {
				t.Errorf("%s: behind it %v", what, h.told(w.b.Candidates()))
			}
			// As the first frame.
			if strings.Contains(what, "bad") || strings.HasPrefix(what, "good") {
				continue
			}
			d = diskWith(t, frame, behind)
			w = newWorld(t, view+", first "+what, h, d, g)
			if file, there := d.Read("bisect"); !there || len(file) != 0 || d.Writes() != 2 {
				t.Errorf("first %s: %x is left", what, fileOf(d))
			}
			w.wantSteps(none("open", api.OK), step{"bad 1", api.OK, Offer, []int{0}, []int{0, 1}})
		}
	}
}

// P20.1: whether a frame fits hangs on those ahead of it: what is refused in one place is accepted in another one.
func TestFitsWhereItStands(t *testing.T) {
	h := line(t, 5)
	frame := func(says byte, n int) said { return said{says, h.puts[n].id} }
	for _, c := range []struct {
		what  string
		all   []said
		taken int
	}{
		{"good, then bad below it", []said{frame(1, 3), frame(2, 2), frame(2, 4)}, 1},
		{"bad, then good above it", []said{frame(2, 2), frame(1, 3), frame(1, 1)}, 1},
		{"bad, bad above it, then good between", []said{frame(2, 2), frame(2, 4), frame(1, 3), frame(1, 1)}, 4},
		{"good, bad above it, bad between, good on that", []said{frame(1, 1), frame(2, 4), frame(2, 3), frame(1, 3), frame(3, 0)}, 3},
		{"all three on one", []said{frame(3, 2), frame(2, 2), frame(1, 2)}, 2},
		{"skips alone", []said{frame(3, 0), frame(3, 1), frame(3, 2), frame(3, 3), frame(3, 4)}, 5},
		{"goods alone", []said{frame(1, 0), frame(1, 1), frame(1, 4), frame(1, 3), frame(1, 2)}, 5},
	} {
		for view, g := range h.few() {
			d := diskWith(t, plain{h, c.all}.file())
			w := newWorld(t, view+", "+c.what, h, d, g)
			if len(w.p.accepted) != c.taken || len(fileOf(d)) != c.taken*18 {
				t.Errorf("%s: %d are taken, want %d", c.what, len(fileOf(d))/18, c.taken)
			}
			// As answers, one by one.
			w = newWorld(t, view+", "+c.what, h, disk.New(), g)
			for k, a := range c.all[:min(c.taken+1, len(c.all))] {
				if e := w.give(a); (e == api.OK) != (k < c.taken) {
					t.Errorf("%s: %d: %v", c.what, k, e)
				}
			}
		}
	}
}

func kill(t testing.TB, d *disk.Disk) {
	t.Helper()
	if e := d.Cut(0, 0); e != api.OK {
		t.Fatal(e)
	}
	if e := d.Put("gone"); e != api.ErrDead {
		t.Fatal(e)
	}
	d.Remove("gone")
}

// P20.1, P20.5: Open on a disk whose power is off, or goes off in it.
func TestOpenOfADeadDisk(t *testing.T) {
	h := line(t, 10)
	g := graph.New(h.s, nil)
	whole := plain{h, row(h)}.file()
	for what, file := range map[string][]byte{"no file": nil, "whole": whole, "a piece": whole[:80], "more": append(slices.Clip(whole), 1)} {
		d := disk.New()
		if file != nil {
			h.must(d.Put("bisect", file))
		}
		kill(t, d)
		was := tell(d)
		b, e := Open(d, g)
		want := api.OK
		if len(file)%18 != 0 {
			want = api.ErrDead
		}
		if e != want || (b == nil) != (want != api.OK) || tell(d) != was {
			t.Error(what, e, b)
		}
		d.Restart()
		h.must(d.Cut(0, 7))
		w := &world{t: t, what: what, h: h, d: d, g: g}
		if e := w.open(); e != want || d.Dead() != (want != api.OK) {
			t.Error(what, e)
		}
		d.Restart()
		if e := w.open(); e != api.OK {
			t.Error(what, e)
		}
		if len(w.p.accepted) != len(file)/18 {
			t.Error(what, len(w.p.accepted))
		}
	}
}

// P20.2, P20.4, P20.5: answers and Clear on a disk whose power is off; the errors of the answer itself are ahead of the disk's.
func TestADeadDisk(t *testing.T) {
	h := line(t, 10)
	for what, g := range h.few() {
		w := newWorld(t, what, h, diskWith(t, plain{h, row(h)}.file()), g)
		kill(t, w.d)
		state := step{"", api.ErrDead, Offer, []int{5, 7}, []int{5, 6, 7, 8}} // 6 is skipped
		for _, c := range []struct {
			call string
			e    api.Errno
		}{
			{"good 5", api.ErrDead}, {"good 0", api.ErrDead}, {"bad 7", api.ErrDead}, {"bad 9", api.ErrDead}, {"bad 8", api.ErrDead}, {"skip 5", api.ErrDead}, {"skip 5 7", api.ErrDead}, {"skip 0", api.ErrDead},
			{"clear", api.ErrDead},
			{"good 8", api.ErrContradiction}, {"good 9", api.ErrContradiction}, {"bad 4", api.ErrContradiction}, {"bad 0", api.ErrContradiction}, {"good ?", api.ErrMissing}, {"bad ?", api.ErrMissing}, {"skip ?", api.ErrMissing}, {"skip 5 ?", api.ErrDead},
			{"skip", api.OK},
		} {
			s := state
			s.call, s.e = c.call, c.e
			w.wantSteps(s)
		}
		w.d.Restart()
		w.wantSteps(step{"open", api.OK, Offer, []int{5, 7}, []int{5, 6, 7, 8}}, step{"clear", api.OK, Waiting, nil, nil})
		// Without a file there is nothing to remove, and no raw write that could fail.
		kill(t, w.d)
		w.wantSteps(none("clear", api.OK), none("bad 3", api.ErrDead), none("open", api.OK))
	}
}

// P20.2, P20.5: a disk that is full by bytes.
func TestAFullFile(t *testing.T) {
	h := line(t, 10)
	g := h.covers()
	most := 262144 / 18
	ahead := row(h)
	for len(ahead) < most-1 {
		ahead = append(ahead, said{3, h.puts[6].id})
	}
	file := plain{h, ahead}.file()
	open := func() *world {
		w := &world{t: t, what: "full", h: h, d: diskWith(t, file), g: g, p: plain{h, row(h)}}
		var e api.Errno
		w.b, e = Open(w.d, g)
		h.must(e)
		return w
	}
	left := func(w *world, e, want api.Errno, size int, numbers ...int) {
		t.Helper()
		if got := w.b.Candidates(); e != want || len(fileOf(w.d)) != size*18 || !slices.Equal(got, h.sorted(numbers...)) {
			t.Errorf("%v, want %v; %d frames, want %d; %v, want %v", e, want, len(fileOf(w.d))/18, size, h.told(got), numbers)
		}
	}
	id := func(n int) api.ID { return h.puts[n].id }
	w := open()
	left(w, w.b.Good(id(5)), api.OK, most, 6, 7, 8)
	left(w, w.b.Good(id(6)), api.ErrFull, most, 6, 7, 8)
	left(w, w.b.Bad(id(7)), api.ErrFull, most, 6, 7, 8)
	left(w, w.b.Skip(id(7)), api.ErrFull, most, 6, 7, 8)
	if state, offered := w.b.State(); state != Offer || offered != id(7) {
		t.Error(state, h.number(offered), "was skipped")
	}
	left(w, w.b.Good(id(8)), api.ErrContradiction, most, 6, 7, 8)
	left(w, w.b.Bad(id(5)), api.ErrContradiction, most, 6, 7, 8)
	left(w, w.b.Good(h.tree), api.ErrMissing, most, 6, 7, 8)
	left(w, w.b.Skip(), api.OK, most, 6, 7, 8)
	kill(t, w.d)
	left(w, w.b.Good(id(6)), api.ErrFull, most, 6, 7, 8)
	w.d.Restart()
	left(w, w.b.Clear(), api.OK, 0)
	left(w, w.b.Bad(id(2)), api.OK, 1, 0, 1, 2)

	w = open()
	left(w, w.b.Skip(id(5), id(7), id(4)), api.ErrFull, most, 5, 6, 7, 8)
	if state, offered := w.b.State(); state != Offer || offered != id(7) {
		t.Error(state, h.number(offered), "of Skip the first one alone is accepted")
	}
	b, e := Open(w.d, g)
	h.must(e)
	if state, offered := b.State(); state != Offer || offered != id(7) {
		t.Error(state, h.number(offered))
	}
}

// P20.2, P20.5: a disk that is full by files.
func TestADiskOfManyFiles(t *testing.T) {
	h := line(t, 4)
	d := disk.New()
	for k := range 32 {
		h.must(d.Put(fmt.Sprint("f", k)))
	}
	w := newWorld(t, "many files", h, d, graph.New(h.s, nil))
	w.wantSteps(
		none("bad 3", api.ErrFull), none("good 0", api.ErrFull), none("skip 1 2", api.ErrFull), none("skip ?", api.ErrMissing), none("clear", api.OK), none("open", api.OK),
	)
	h.must(d.Remove("f9"))
	w.wantSteps(
		step{"bad 3", api.OK, Offer, []int{1}, []int{0, 1, 2, 3}},
		step{"good 0", api.OK, Offer, []int{1, 2}, []int{1, 2, 3}},
		step{"clear", api.OK, Waiting, nil, nil},
	)
	h.must(d.Put("f9"))
	w.wantSteps(none("bad 3", api.ErrFull))
}

// P20.1: the file stands on the disk that is handed in, the commits are the graph's.
func TestAnotherDisk(t *testing.T) {
	h := line(t, 6)
	own, other := newWorld(t, "own", h, h.d, graph.New(h.s, h.c)), newWorld(t, "other", h, disk.New(), graph.New(h.s, h.c))
	own.do("bad 5")
	other.do("bad 3")
	own.do("good 1")
	other.do("good 0")
	own.wantSteps(step{"open", api.OK, Offer, []int{3}, []int{2, 3, 4, 5}})
	other.wantSteps(step{"open", api.OK, Offer, []int{1, 2}, []int{1, 2, 3}})
	if names := other.d.Names(); !slices.Equal(names, []string{"bisect"}) {
		t.Error(names)
	}
	// A disk whose store has other commits: the frames' commits are not there for that one's graph.
	far := line(t, 3)
	stranger := newHistory(t, nil, nil)
	stranger.commit(1)
	h.must(stranger.d.Put("bisect", plain{far, []said{{2, far.puts[2].id}}}.file()))
	w := newWorld(t, "another store", far, stranger.d, graph.New(far.s, nil))
	w.wantSteps(step{"open", api.OK, Offer, []int{0, 1}, []int{0, 1, 2}})
	w = newWorld(t, "its own", stranger, stranger.d, graph.New(stranger.s, nil))
	w.wantSteps(none("open", api.OK), none("good 0", api.OK), step{"bad 2", api.OK, Offer, []int{1}, []int{1, 2}})
}

// P20.4: Clear, with a file and without, and what is answered behind it.
func TestClear(t *testing.T) {
	h := line(t, 6)
	wantByHand(t, h,
		none("clear", api.OK),
		none("good 3", api.OK),
		none("skip 1", api.OK),
		none("clear", api.OK),
		step{"bad 3", api.OK, Offer, []int{1}, []int{0, 1, 2, 3}}, // neither good nor skipped is what was
		step{"good 2", api.OK, Found, []int{3}, []int{3}},
		none("clear", api.OK),
		none("clear", api.OK),
		none("good 5", api.OK), // nothing is bad any more
		none("bad 0", api.ErrContradiction),
		none("clear", api.OK),
		step{"bad 0", api.OK, Found, []int{0}, []int{0}},
	)
	// The file went: there is nothing to remove, and no answer was given.
	w := newWorld(t, "gone", h, disk.New(), graph.New(h.s, nil))
	w.do("bad 5")
	w.do("good 1")
	h.must(w.d.Remove("bisect"))
	n := w.d.Writes()
	w.wantSteps(none("clear", api.OK))
	if w.d.Writes() != n {
		t.Error("written")
	}
	w.wantSteps(step{"bad 2", api.OK, Offer, []int{0, 1}, []int{0, 1, 2}})
	// A file without bytes is one.
	w = newWorld(t, "no bytes", h, diskWith(t), graph.New(h.s, nil))
	w.wantSteps(none("clear", api.OK))
	if _, there := w.d.Read("bisect"); there || w.d.Writes() != 2 {
		t.Error("it is there")
	}
}

// judge says of an offered commit what it is, if a commit broke it: bad are those that it is from.
func judge(h *history, culprit int, id api.ID) byte {
	if h.isFrom(culprit, h.number(id)) {
		return 2
	}
	return 1
}

// finish answers what is offered until there is an announcement.
func (w *world) finish(culprit int) (State, api.ID, []api.ID) {
	w.t.Helper()
	for {
		state, id := w.b.State()
		if state != Offer {
			return state, id, w.b.Candidates()
		}
		if e := w.give(said{judge(w.h, culprit, id), id}); e != api.OK {
			w.t.Fatal(w.what, e)
		}
	}
}

// shapes is a history with merges, several roots, and commits to which nothing leads.
func shapes(t testing.TB) *history {
	t.Helper()
	return newHistory(t,
		nil,                  // 0
		[]int{0},             // 1
		[]int{0},             // 2
		[]int{1, 2},          // 3
		[]int{3},             // 4
		[]int{3},             // 5
		[]int{5, 4},          // 6
		nil,                  // 7: another root
		[]int{7},             // 8
		[]int{6, 8},          // 9
		[]int{9},             // 10
		[]int{2},             // 11: nothing leads to it
		[]int{9, 10, 8, 5},   // 12: some of its parents are from others
		[]int{12},            // 13
		[]int{13, 11, 7, 10}, // 14
		nil,                  // 15: a root alone
		[]int{14},            // 16
	)
}

// P20.5, P0.6: the power goes off at each raw write of a row of answers, with each number of bytes laid, and again in the opening: the bisection stands before or behind the answer that was cut off, and goes on to the same announcement.
func TestThePowerGoesOff(t *testing.T) {
	h := shapes(t)
	of := func(says byte, n int) said { return said{says, h.puts[n].id} }
	rows := [][]said{
		{of(3, 4), of(1, 1), of(2, 16), of(3, 12), of(1, 8), of(2, 14), of(1, 3), of(2, 9)},
		{of(2, 9), of(2, 14), of(1, 15), of(1, 2), of(3, 0), of(3, 13), of(1, 11)},
	}
	for view, g := range h.few() {
		for k, answers := range rows {
			culprit := []int{4, 10}[k]
			whole := newWorld(t, view, h, disk.New(), g)
			for _, a := range answers {
				if e := whole.give(a); e != api.OK {
					t.Fatal(whole.answers(), e)
				}
			}
			state, id, left := whole.finish(culprit)
			for after := range answers {
				for _, keep := range []int{0, 1, 4, 5, 6, 9, 13, 14, 17, 18, 19, math.MaxInt} {
					for again := range 2 {
						w := newWorld(t, fmt.Sprint(view, ", row ", k, ", off behind ", after, " and ", keep), h, disk.New(), g)
						wantSame(t, w, answers, after, keep, again == 1)
						s, n, l := w.finish(culprit)
						if s != state || n != id || !slices.Equal(l, left) {
							t.Errorf("%s: %v %d %v, want %v %d %v", w.what, s, h.number(n), h.told(l), state, h.number(id), h.told(left))
						}
					}
				}
			}
		}
	}
}

// wantSame gives answers up to the one in which the power goes off, opens anew, and gives the rest.
func wantSame(t *testing.T, w *world, answers []said, after, keep int, again bool) {
	t.Helper()
	w.h.must(w.d.Cut(after, keep))
	for k, a := range answers[:after+1] {
		if e := w.give(a); (e == api.OK) != (k < after) {
			t.Fatal(w.what, k, e)
		}
	}
	w.d.Restart()
	if again {
		// In the opening, too, if that writes.
		w.h.must(w.d.Cut(0, keep))
		torn := keep > 0 && keep < 18
		if e := w.open(); (e == api.ErrDead) != torn {
			t.Fatal(w.what, e)
		}
		w.d.Restart()
	}
	if e := w.open(); e != api.OK {
		t.Fatal(w.what, e)
	}
	behind := after
	if keep >= 18 {
		behind++
	}
	if !slices.Equal(w.p.accepted, answers[:behind]) {
		t.Fatalf("%s: %s", w.what, w.answers())
	}
	for _, a := range answers[behind:] {
		if e := w.give(a); e != api.OK {
			t.Fatal(w.what, e)
		}
	}
}

// P20.5: the power goes off in Clear: the bisection stands before it.
func TestThePowerGoesOffInClear(t *testing.T) {
	h := line(t, 10)
	w := newWorld(t, "clear", h, diskWith(t, plain{h, row(h)}.file()), graph.New(h.s, nil))
	h.must(w.d.Cut(0, 9))
	want := step{"clear", api.ErrDead, Offer, []int{5, 7}, []int{5, 6, 7, 8}}
	w.wantSteps(want)
	w.d.Restart()
	want.call, want.e = "open", api.OK
	w.wantSteps(want)
	// In the second of the raw writes of Skip: the first of its answers was accepted.
	h.must(w.d.Cut(1, 0))
	w.wantSteps(step{"skip 5 7 4", api.ErrDead, Offer, []int{7}, []int{5, 6, 7, 8}})
	w.d.Restart()
	w.wantSteps(step{"open", api.OK, Offer, []int{7}, []int{5, 6, 7, 8}})
}

// P20.5: the store is on the same disk, and both are opened anew.
func TestRestartWithTheStore(t *testing.T) {
	h := line(t, 20)
	for keep := range 20 {
		w := newWorld(t, fmt.Sprint("keep ", keep), h, h.d, graph.New(h.s, h.c))
		w.do("bad 19")
		h.must(h.d.Cut(1, keep))
		w.do("good 2")
		w.do("good 7")
		h.d.Restart()
		h.open()
		w = newWorld(t, w.what, h, h.d, graph.New(h.s, h.c))
		if state, id, _ := w.finish(11); state != Found || id != h.puts[11].id {
			t.Error(keep, state, h.number(id))
		}
		w.do("clear")
	}
}

// least is the least number k with 2^k at least n.
func least(n int) int {
	k := 0
	for 1<<k < n {
		k++
	}
	return k
}

// P20.6: on lines no more answers are asked for than the chapter says.
func TestHowFewAnswers(t *testing.T) {
	h := line(t, 301)
	for view, g := range map[string]*graph.Graph{"nil": graph.New(h.s, nil), "some": h.covers(150)} {
		for n := 1; n <= 300; n++ {
			culprits := []int{0, n - 1, n / 2, n / 3, n - n/3, n * 7 % 300 % n, n * 13 % 299 % n}
			if n <= 20 || n == 64 || n == 65 || n == 129 {
				culprits = nil
				for c := range n {
					culprits = append(culprits, c)
				}
			}
			// With a good one at the root, or without: the candidates are 1 to n, or 0 to n - 1.
			first := n % 2
			for _, c := range culprits {
				b, e := Open(disk.New(), g)
				h.must(e)
				if first == 1 {
					h.must(b.Good(h.puts[0].id))
				}
				h.must(b.Bad(h.puts[first+n-1].id))
				asked := 0
				for left := n; ; asked++ {
					state, id := b.State()
					if state == Found {
						if id != h.puts[first+c].id {
							t.Fatalf("%s: %d of %d: found %d", view, c, n, h.number(id)-first)
						}
						break
					}
					answer := b.Good
					if h.number(id) >= first+c {
						answer = b.Bad
					}
					if e := answer(id); state != Offer || e != api.OK {
						t.Fatalf("%s: %d of %d: %v, %v", view, c, n, state, e)
					}
					now := len(b.Candidates())
					if now >= left || now < 1 {
						t.Fatalf("%s: %d of %d: %d candidates behind %d", view, c, n, now, left)
					}
					left = now
				}
				if asked > least(n) {
					t.Errorf("%s: %d of %d: %d answers", view, c, n, asked)
				}
			}
		}
	}
}

// wantFewer: P20.6: whatever is said of an offered commit is accepted, and leaves fewer candidates.
func (w *world) wantFewer() {
	w.t.Helper()
	state, id := w.b.State()
	left := w.b.Candidates()
	if state != Offer {
		return
	}
	if !slices.Contains(left, id) {
		w.t.Errorf("%s: %d is offered, which is no candidate", w.what, w.h.number(id))
	}
	for _, says := range []byte{1, 2} {
		b, e := Open(w.d.Clone(), w.g)
		w.h.must(e)
		answer := map[byte]func(api.ID) api.Errno{1: b.Good, 2: b.Bad}[says]
		if e := answer(id); e != api.OK {
			w.t.Errorf("%s: %d is offered: %v", w.what, w.h.number(id), e)
		}
		if n := len(b.Candidates()); n >= len(left) || n == 0 {
			w.t.Errorf("%s: %d is offered, said %d: %d candidates behind %d", w.what, w.h.number(id), says, n, len(left))
		}
	}
}

// P20.2, P20.3, P20.6: all histories of up to four commits, and all rows of up to three answers, held against the words of the chapter.
func TestAllSmallHistories(t *testing.T) {
	at := 0
	for n := 1; n <= 4; n++ {
		for _, shape := range shapesOf(n) {
			h := newHistory(t, shape...)
			g := graph.New(h.s, nil)
			switch at++; at % 3 {
			case 1:
				g = h.covers()
			case 2:
				g = h.covers(n / 2)
			}
			var all []said
			for k := range n {
				for says := byte(1); says <= 3; says++ {
					all = append(all, said{says, h.puts[k].id})
				}
			}
			wantRows(t, h, g, all, 3, plain{h: h})
			if t.Failed() {
				return
			}
		}
	}
}

// wantRows holds each next answer behind those of p.
func wantRows(t *testing.T, h *history, g *graph.Graph, all []said, more int, p plain) {
	t.Helper()
	for _, a := range all {
		w := &world{t: t, what: fmt.Sprint(len(h.puts), " commits"), h: h, d: disk.New(), g: g, p: p}
		if len(p.accepted) > 0 {
			h.must(w.d.Put("bisect", p.file()))
		}
		var e api.Errno
		w.b, e = Open(w.d, g)
		h.must(e)
		w.give(a)
		w.wantFewer()
		if t.Failed() {
			t.Log(h.puts)
			return
		}
		if len(w.p.accepted) > len(p.accepted) && more > 1 {
			wantRows(t, h, g, all, more-1, w.p)
		}
	}
}

// shapesOf: all choices of parents of so many commits.
func shapesOf(n int) [][][]int {
	if n == 0 {
		return [][][]int{nil}
	}
	var all [][][]int
	for _, below := range shapesOf(n - 1) {
		for bits := range 1 << (n - 1) {
			var parents []int
			for k := range n - 1 {
				if bits>>k&1 == 1 {
					parents = append(parents, k)
				}
			}
			all = append(all, append(slices.Clone(below), parents))
		}
	}
	return all
}

func pick[T any](r *rand.Rand, list []T) T { return list[r.Intn(len(list))] }

// grow puts a commit above some that are there, mostly late ones.
func (h *history) grow(r *rand.Rand) {
	n := len(h.puts)
	parents := r.Perm(n)
	if late := min(n, 6); r.Intn(4) > 0 {
		parents = nil
		for _, k := range r.Perm(late) {
			parents = append(parents, n-1-k)
		}
	}
	h.commit(parents[:min(len(parents), pick(r, []int{0, 1, 1, 1, 1, 1, 2, 2, 2, 3, 8}))]...)
}

// randomCall does one, and counts what came of it.
func (w *world) randomCall(r *rand.Rand, count map[string]int) {
	n := len(w.h.puts)
	id := w.h.puts[r.Intn(n)].id
	if r.Intn(12) == 0 {
		id = pick(r, w.h.strangers())
	}
	if left := w.b.Candidates(); len(left) > 0 && r.Intn(3) == 0 {
		id = pick(r, left)
	}
	var e api.Errno
	name := ""
	switch k := r.Intn(40); {
	case k < 10:
		name, e = "good", w.good(id)
	case k < 18 || len(w.p.of(2)) == 0:
		if r.Intn(2) == 0 {
			id = w.h.puts[n-1-r.Intn(min(n, 4))].id
		}
		name, e = "bad", w.bad(id)
	case k < 24:
		name, e = "skip", w.skip(id)
	case k < 27:
		name, e = "skips", w.skip(id, w.h.puts[r.Intn(n)].id, pick(r, append(w.h.strangers(), id, id, id, id)), id)
	case k < 30:
		if state, offered := w.b.State(); state == Offer {
			name, e = "offered", w.give(said{byte(1 + r.Intn(3)), offered})
		}
	case k < 34:
		w.open()
	case k < 35:
		w.clear()
	case k < 37:
		w.h.grow(r)
	default:
		keep := r.Intn(20)
		w.h.must(w.d.Cut(r.Intn(2), keep))
		a, b := w.h.puts[r.Intn(n)].id, w.h.puts[r.Intn(n)].id
		e = w.good(a)
		if e == api.OK {
			e = w.skip(b)
		}
		name = "cut"
		w.d.Restart()
		w.open()
	}
	state, _ := w.b.State()
	count[fmt.Sprint(name, " ", e)]++
	count[fmt.Sprint("state ", state)]++
}

// P20.1 to P20.6: random histories, chains and calls, against the words of the chapter.
func TestRandomCalls(t *testing.T) {
	r := rand.New(rand.NewSource(20))
	count := map[string]int{}
	for k := range 300 {
		h := newHistory(t, nil)
		for range r.Intn(40) {
			h.grow(r)
		}
		for range 3 {
			if r.Intn(3) > 0 {
				h.write(r.Intn(len(h.puts)), r.Intn(len(h.puts)))
			}
		}
		if r.Intn(3) == 0 {
			h.write()
		}
		g := graph.New(h.s, h.c)
		if r.Intn(5) == 0 {
			g = graph.New(h.s, nil)
		}
		w := newWorld(t, fmt.Sprint("history ", k), h, disk.New(), g)
		for range 40 {
			w.randomCall(r, count)
			w.wantFewer()
		}
		if t.Failed() {
			t.FailNow()
		}
	}
	for _, what := range []string{"good E0", "good E5", "good E20", "bad E0", "bad E5", "bad E20", "skip E0", "skip E5", "skips E0", "skips E5", "offered E0", "cut E8", "cut E20",
		"state 0", "state 1", "state 2", "state 3"} {
		if count[what] < 50 {
			t.Error("met too seldom to tell much:", what, count)
		}
	}
}

// P0.6: random histories and culprits: what is found is one to which all answers fit; with skips the candidates that are listed have it among them.
func TestRandomBisections(t *testing.T) {
	r := rand.New(rand.NewSource(6))
	count := map[State]int{}
	for k := range 200 {
		h := newHistory(t, nil)
		for range 1 + r.Intn(50) {
			h.grow(r)
		}
		last := len(h.puts) - 1
		var from []int
		for n := range h.puts {
			if h.isFrom(n, last) {
				from = append(from, n)
			}
		}
		culprit := pick(r, from)
		w := newWorld(t, fmt.Sprint("history ", k), h, disk.New(), h.covers(r.Intn(len(h.puts))))
		w.bad(h.puts[last].id)
		for {
			state, id := w.b.State()
			if state != Offer {
				break
			}
			if r.Intn(3) == 0 {
				w.skip(id)
			} else {
				w.give(said{judge(h, culprit, id), id})
			}
			if r.Intn(3) == 0 {
				w.open()
			}
		}
		state, id := w.b.State()
		count[state]++
		if state == Found && id != h.puts[culprit].id || !slices.Contains(w.b.Candidates(), h.puts[culprit].id) {
			t.Errorf("history %d: %v %d, not %d", k, state, h.number(id), culprit)
		}
	}
	if count[Found] < 50 || count[Stuck] < 30 {
		t.Error("met too seldom to tell much:", count)
	}
}

// P0.1: layers that were spoilt, and a chain that a cut left, change nothing that is told; commits that are put behind the graph neither.
func TestSpoiltLayersAndCuts(t *testing.T) {
	h := shapes(t)
	for _, n := range []int{0, 3, 9} {
		h.write(n)
	}
	h.write()
	calls := []string{"good 1", "bad 16", "skip 9", "good 15", "good 11", "bad 14", "open", "good 16", "bad 1", "good 8", "bad 12", "good 4", "skip 5", "good 5"}
	want := func(what string, g *graph.Graph) {
		w := newWorld(t, what, h, disk.New(), g)
		for _, call := range calls {
			w.do(call)
		}
	}
	first := h.d
	for _, name := range append(h.c.Names(), "chain") {
		file, _ := first.Read(name)
		for at := 0; at < len(file); at += 1 + len(file)/12 {
			h.d = first.Clone()
			h.must(h.d.Spoil(name, at, 4))
			h.open()
			want(fmt.Sprint("spoilt ", name, " at ", at), graph.New(h.s, h.c))
		}
	}
	for after := range 7 {
		h.d = first.Clone()
		h.open()
		g := graph.New(h.s, h.c)
		h.must(h.d.Cut(after, 10))
		// Seven raw writes: the layer's file, the two of the swap, and four that go.
		if e := h.c.Merge(4); e != api.ErrDead {
			t.Fatal(after, e)
		}
		want(fmt.Sprint("dead behind ", after), g)
		h.d.Restart()
		h.open()
		want(fmt.Sprint("restarted behind ", after), graph.New(h.s, h.c))
	}
}

// Commits that are put behind the graph's and the bisection's making are there.
func TestPutBehindTheGraph(t *testing.T) {
	h := shapes(t)
	all := h.views()
	var worlds []*world
	for what, g := range all {
		w := newWorld(t, what, h, disk.New(), g)
		w.do("good 5")
		w.do("bad 14")
		worlds = append(worlds, w)
	}
	n := h.commit(16, 15)
	h.commit(n)
	for _, w := range worlds {
		w.do("open")
		w.do(fmt.Sprint("good ", n))
		w.do(fmt.Sprint("bad ", n+1))
		w.do(fmt.Sprint("skip ", n))
		w.do("good 9")
		w.do("open")
	}
}

// Rule 4: what is asked or done in between changes nothing that is told.
func TestAskedInBetween(t *testing.T) {
	h := shapes(t)
	h.write(9)
	g := graph.New(h.s, h.c)
	w := newWorld(t, "in between", h, disk.New(), g)
	for _, call := range []string{"bad 14", "good 3", "skip 8", "skip 9"} {
		w.do(call)
	}
	state, id := w.b.State()
	left := w.b.Candidates()
	for k, do := range []func(){
		func() {},
		func() { h.write() },
		func() { h.must(h.c.Drop(1)) },
		func() { h.must(h.s.SetRef("main", h.puts[3].id)) },
		func() { h.commit(14) },
		func() { g.Parents(h.puts[3].id); g.Content(h.puts[3].id) },
		func() { w.b.State(); w.b.State(); w.b.Candidates() },
		func() { w.b.Good(1); w.b.Bad(h.puts[0].id); w.b.Skip(0); w.b.Good(h.puts[14].id) },
		func() { newWorld(t, "another one", h, disk.New(), g).do("bad 6") },
		g.Reset,
	} {
		do()
		if s, n := w.b.State(); s != state || n != id || !slices.Equal(w.b.Candidates(), left) {
			t.Errorf("step %d: %v %d %v", k, s, h.number(n), h.told(w.b.Candidates()))
		}
	}
}

// The same is read each time, in the same order: what is asked for hangs on no map's order. No files are read.
func TestSameReads(t *testing.T) {
	h := shapes(t)
	for what, g := range h.few() {
		var read []api.ID
		for k := range 20 {
			g.Reset()
			w := newWorld(t, what, h, disk.New(), g)
			for _, call := range []string{"good 1", "bad 16", "good 11", "good 8", "good 16", "skip 9", "bad 12", "open"} {
				w.do(call)
			}
			if k > 0 && !slices.Equal(read, g.Read()) {
				t.Fatal(what, "something else is read")
			}
			if g.Trees() != 0 {
				t.Error(what, "files are read")
			}
			read = g.Read()
		}
	}
}

// whole is a list with its spare room.
func whole(list []api.ID) []api.ID { return list[:cap(list)] }

// roomy lays a list into a longer one, whose spare room has a mark in each place.
func roomy(list []api.ID) []api.ID {
	all := slices.Repeat([]api.ID{77}, len(list)+64)
	copy(all, list)
	return all[:len(list)]
}

// fill writes into all of a list, and into its spare room.
func fill(list []api.ID) {
	for i := range whole(list) {
		whole(list)[i] = 66
	}
}

// Rule 3: answers are new memory; what is handed in is not changed, its spare room neither, and not kept.
func TestMemory(t *testing.T) {
	h := shapes(t)
	for what, g := range h.few() {
		w := newWorld(t, what, h, disk.New(), g)
		for _, call := range []string{"skip 9", "bad 16", "good 3", "bad 14", "good 8", "skip 10", "open"} {
			w.do(call)
			first, second := w.b.Candidates(), w.b.Candidates()
			keep := slices.Clone(second)
			fill(first)
			if !slices.Equal(second, keep) {
				t.Error(what, call, "answers share memory")
			}
			w.wantTold()
		}
		ids := roomy(h.of(12, 12, 13))
		was := slices.Clone(whole(ids))
		w.skip(ids...)
		if !slices.Equal(whole(ids), was) {
			t.Error(what, "what is handed in is changed")
		}
		fill(ids)
		w.wantTold()
		w.open()
		ids = roomy([]api.ID{h.puts[5].id, 0, h.puts[6].id})
		was = slices.Clone(whole(ids))
		w.skip(ids...)
		if !slices.Equal(whole(ids), was) {
			t.Error(what, "what is handed in is changed")
		}
		fill(ids)
		w.wantTold()
		for _, nothing := range [][]api.ID{nil, {}, ids[:0]} {
			w.skip(nothing...)
		}
	}
}

// Bisections of clones of a disk go their own ways.
func TestTheirOwnWays(t *testing.T) {
	h := shapes(t)
	a := newWorld(t, "a", h, disk.New(), graph.New(h.s, nil))
	a.do("bad 16")
	a.do("good 3")
	a.do("skip 9")
	b := newWorld(t, "b", h, a.d.Clone(), a.g)
	b.do("good 9")
	a.do("skip 12")
	b.do("skip 14")
	a.do("bad 9")
	b.do("clear")
	a.wantTold()
	a.do("open")
	b.do("open")
}

// Rule 5: calls end soon on as many commits as a disk holds.
func TestMany(t *testing.T) {
	h := newHistory(t, nil)
	for h.tryCommit(len(h.puts)-1) == api.OK {
	}
	n := len(h.puts)
	if n < 3000 {
		t.Fatal(n)
	}
	g := graph.New(h.s, nil)
	for _, culprit := range []int{0, n / 3, n - 1} {
		b, e := Open(disk.New(), g)
		h.must(e)
		h.must(b.Bad(h.puts[n-1].id))
		asked := 0
		for {
			state, id := b.State()
			if state == Found {
				if id != h.puts[culprit].id || asked > least(n) {
					t.Error(culprit, h.number(id), asked)
				}
				break
			}
			asked++
			if h.number(id) >= culprit {
				h.must(b.Bad(id))
			} else {
				h.must(b.Good(id))
			}
		}
	}
	// As many answers as a file holds, of which many say nothing new.
	var answers []said
	for k := range 262144 / 18 {
		a := said{byte(1 + k%3), h.puts[n-1].id}
		if a.says != 2 {
			a.id = h.puts[n-2-k%7].id
		}
		answers = append(answers, a)
	}
	d := diskWith(t, plain{h, answers}.file())
	b, e := Open(d, g)
	h.must(e)
	if state, id := b.State(); state != Found || id != h.puts[n-1].id || d.Writes() != 1 {
		t.Error(state, h.number(id), d.Writes())
	}
}

// Rule 5: many ways lead to each commit.
func TestManyWays(t *testing.T) {
	h := newHistory(t, nil)
	for len(h.puts) < 600 {
		k := len(h.puts) - 1
		h.commit(k)
		h.commit(k)
		h.commit(k+1, k+2)
	}
	last := len(h.puts) - 1
	w := newWorld(t, "ladder", h, disk.New(), h.covers(last/3))
	w.bad(h.puts[last].id)
	if state, id, _ := w.finish(200); state != Found || id != h.puts[200].id {
		t.Error(state, h.number(id))
	}
}

// The ways that the chapter asks for.
func TestWays(t *testing.T) {
	if !reflect.TypeOf((*Bisect).Skip).IsVariadic() {
		t.Error("Skip isn't variadic")
	}
	if f, there := reflect.TypeOf(Bisect{}).FieldByName("Graph"); !there || !f.Anonymous {
		t.Error("a bisection doesn't embed its graph")
	}
}
