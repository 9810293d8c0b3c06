package chain

import (
	"bytes"
	"encoding/binary"
	"encoding/hex"
	"fmt"
	"hash/crc32"
	"math"
	"math/rand"
	"reflect"
	"slices"
	"strings"
	"testing"

	"forebear/api"
	"forebear/disk"
	"forebear/layer"
	"forebear/store"
)

// history is a disk with a store, and its commits in the order in which they were put.
type history struct {
	t   testing.TB
	d   *disk.Disk
	s   *store.Store
	ids []api.ID
}

func newHistory(t testing.TB) *history {
	t.Helper()
	d := disk.New()
	return &history{t: t, d: d, s: openStore(t, d)}
}

func openStore(t testing.TB, d *disk.Disk) *store.Store {
	t.Helper()
	s, e := store.Open(d)
	if e != api.OK {
		t.Fatal(e)
	}
	return s
}

// tree puts files, each told as its path, = and its text, by rising path.
func (h *history) tree(list ...string) api.ID {
	h.t.Helper()
	var entries []api.Entry
	for _, file := range list {
		p, text, _ := strings.Cut(file, "=")
		blob, e := h.s.Blob([]byte(text))
		if e != api.OK {
			h.t.Fatal(e)
		}
		entries = append(entries, api.Entry{Path: p, Blob: blob})
	}
	id, e := h.s.Tree(entries...)
	if e != api.OK {
		h.t.Fatal(e, list)
	}
	return id
}

// commit puts one above those of these numbers; its note makes it unlike the others.
func (h *history) commit(tree api.ID, date int64, parents ...int) api.ID {
	h.t.Helper()
	c := api.Commit{Tree: tree, Date: date, Note: fmt.Sprintf("c%d", len(h.ids)), Parents: h.of(parents...)}
	id, e := h.s.Commit(c)
	if e != api.OK {
		h.t.Fatal(e)
	}
	h.ids = append(h.ids, id)
	return id
}

// of is the IDs of the commits of these numbers.
func (h *history) of(numbers ...int) []api.ID {
	var ids []api.ID
	for _, n := range numbers {
		ids = append(ids, h.ids[n])
	}
	return ids
}

// line is so many commits, each above the one before it, with a file that each changes.
func line(t testing.TB, n int) *history {
	h := newHistory(t)
	for i := range n {
		var parents []int
		if i > 0 {
			parents = []int{i - 1}
		}
		h.commit(h.tree(fmt.Sprint("a=", i)), int64(i), parents...)
	}
	return h
}

// small is the history whose chains were reckoned elsewhere.
func small(t testing.TB) *history {
	h := newHistory(t)
	var nine []string
	for i := range 9 {
		nine = append(nine, fmt.Sprintf("f%d=x", i))
	}
	h.commit(h.tree("a=1", "d/b=2"), 5)
	h.commit(h.tree("a=1", "d/b=3"), 0, 0)
	h.commit(h.tree("a=1", "d/b=2"), 1<<40, 0)
	h.commit(h.tree("d/b=3", "d/e/f=x"), 7, 2, 1)
	h.commit(h.tree(), 7, 3)
	h.commit(h.tree(nine...), 8, 4, 0)
	h.commit(h.tree("f0=x"), 9, 5)
	return h
}

// named is a layer of a chain, told by its number and its bytes.
type named struct {
	number uint32
	bytes  []byte
}

func (l named) file() string { return fmt.Sprintf("layer.%d", l.number) }

// sealed is a frame of these bytes.
func sealed(kind byte, body []byte) []byte {
	b := binary.BigEndian.AppendUint32(nil, uint32(len(body)))
	b = append(append(b, kind), body...)
	return binary.BigEndian.AppendUint32(b, crc32.ChecksumIEEE(b))
}

func chainBody(layers []named) []byte {
	var body []byte
	for _, l := range layers {
		body = binary.BigEndian.AppendUint32(body, l.number)
		body = binary.BigEndian.AppendUint32(body, crc32.ChecksumIEEE(l.bytes))
	}
	return body
}

func chainBytes(layers []named) []byte { return sealed(9, chainBody(layers)) }

// layers is the bytes of layers of the commits of these numbers, one upon the other, with the numbers 1, 2 and so on.
func (h *history) layers(parts ...[]int) []named {
	h.t.Helper()
	var list []named
	var below []layer.Row
	for i, numbers := range parts {
		rows, e := layer.Rows(h.s, below, h.of(numbers...)...)
		if e != api.OK {
			h.t.Fatal(e, numbers)
		}
		list = append(list, named{uint32(i + 1), layer.Encode(len(below), rows...)})
		below = append(below, rows...)
	}
	return list
}

// put lays layers' files, and the chain file.
func (h *history) put(chain []byte, layers ...named) {
	h.t.Helper()
	for _, l := range layers {
		h.file(l.file(), l.bytes)
	}
	h.file("chain", chain)
}

func (h *history) file(name string, b []byte) {
	h.t.Helper()
	if e := h.d.Put(name, b); e != api.OK {
		h.t.Fatal(e, name)
	}
}

// fill lays files that are no chain's, until the disk has so many.
func (h *history) fill(n int) {
	for i := 0; len(h.d.Names()) < n; i++ {
		h.file(fmt.Sprint("f", i), []byte{byte(i)})
	}
}

// raw is a raw write that the disk is asked for.
type raw struct {
	verb, name, to string
	bytes          []byte
}

func (r raw) do(d *disk.Disk) api.Errno {
	switch r.verb {
	case "put":
		return d.Put(r.name, r.bytes)
	case "rename":
		return d.Rename(r.name, r.to)
	}
	return d.Remove(r.name)
}

func (r raw) String() string { return strings.TrimSpace(r.verb + " " + r.name + " " + r.to) }

// plain is a chain by the words of the chapter: its layers, the lowest first, on a disk of its own.
type plain struct {
	d      *disk.Disk
	s      *store.Store
	layers []named
}

func (p *plain) there(name string) bool { return slices.Contains(p.d.Names(), name) }

// rows is the rows of each of the layers.
func (p *plain) rows() [][]layer.Row {
	var all [][]layer.Row
	for _, l := range p.layers {
		_, rows, _ := layer.Decode(l.bytes)
		all = append(all, rows)
	}
	return all
}

func (p *plain) stack() []layer.Row { return slices.Concat(p.rows()...) }

func (p *plain) covered() []api.ID {
	var ids []api.ID
	for _, row := range p.stack() {
		ids = append(ids, row.ID)
	}
	return ids
}

// swapping is what makes the chain file be that of these layers.
func (p *plain) swapping(layers []named) []raw {
	switch {
	case len(layers) > 0:
		return []raw{{verb: "put", name: "chain.new", bytes: chainBytes(layers)}, {verb: "rename", name: "chain.new", to: "chain"}}
	case p.there("chain"):
		return []raw{{verb: "remove", name: "chain"}}
	}
	return nil
}

// readNamed is what a chain file names: numbers and check sums.
func readNamed(file []byte) ([]uint32, []uint32) {
	n := (len(file) - 9) / 8
	if n < 1 || n > 6 || len(file) != 9+8*n || !bytes.Equal(file, sealed(9, file[5:5+8*n])) {
		return nil, nil
	}
	var numbers, checks []uint32
	for at := 5; at < 5+8*n; at += 8 {
		number := binary.BigEndian.Uint32(file[at:])
		if number == 0 || slices.Contains(numbers, number) {
			return nil, nil
		}
		numbers, checks = append(numbers, number), append(checks, binary.BigEndian.Uint32(file[at+4:]))
	}
	return numbers, checks
}

// opening is the chain of the good layers, and what the disk is to be asked for.
func opening(d *disk.Disk, s *store.Store) (*plain, []raw) {
	p := &plain{d: d, s: s}
	file, _ := d.Read("chain")
	numbers, checks := readNamed(file)
	for i, number := range numbers {
		l := named{number: number}
		b, there := d.Read(l.file())
		l.bytes = b
		if !there || crc32.ChecksumIEEE(b) != checks[i] {
			break
		}
		if _, e := layer.Verify(s, p.stack(), b); e != api.OK {
			break
		}
		p.layers = append(p.layers, l)
	}
	var asked []raw
	if len(p.layers) == 0 || len(p.layers) < len(numbers) {
		asked = p.swapping(p.layers)
	}
	// The one that is being swapped is there no more by then.
	swapped := len(asked) == 2
	for _, name := range d.Names() {
		mine := slices.ContainsFunc(p.layers, func(l named) bool { return l.file() == name })
		if name == "chain.new" && !swapped || strings.HasPrefix(name, "layer.") && !mine {
			asked = append(asked, raw{verb: "remove", name: name})
		}
	}
	return p, asked
}

// openPlain does what an opening asks for.
func openPlain(d *disk.Disk, s *store.Store) (*plain, api.Errno) {
	p, asked := opening(d, s)
	for _, r := range asked {
		if e := r.do(d); e != api.OK {
			return nil, e
		}
	}
	return p, api.OK
}

// call is one that writes, and what the chapter says of it: its error ahead of the disk's, how many of the lowest layers are kept, and of which commits the new one is, if there is one.
type call struct {
	what string
	do   func(c *Chain) api.Errno
	want func(p *plain) (e api.Errno, kept int, ids []api.ID)
}

// from is the commits that are tips or ancestors of one: a commit is, if it is a tip, or a parent of one that is.
func from(s *store.Store, tips []api.ID) []api.ID {
	ids := slices.Clone(tips)
	for at := 0; at < len(ids); at++ {
		c, _ := s.Get(ids[at])
		for _, parent := range c.Parents {
			if !slices.Contains(ids, parent) {
				ids = append(ids, parent)
			}
		}
	}
	return ids
}

func write(tips ...api.ID) call {
	return call{fmt.Sprintf("Write %x", tips), func(c *Chain) api.Errno { return c.Write(tips...) }, func(p *plain) (api.Errno, int, []api.ID) {
		all, covered := p.s.Commits(), p.covered()
		for _, tip := range tips {
			if !slices.Contains(all, tip) {
				return api.ErrMissing, 0, nil
			}
		}
		wanted := all
		if len(tips) > 0 {
			wanted = from(p.s, tips)
		}
		var ids []api.ID
		for _, id := range all {
			if slices.Contains(wanted, id) && !slices.Contains(covered, id) {
				ids = append(ids, id)
			}
		}
		if len(ids) > 0 && len(p.layers) == 6 {
			return api.ErrMany, 0, nil
		}
		return api.OK, len(p.layers), ids
	}}
}

func merge(n int) call {
	return call{fmt.Sprint("Merge ", n), func(c *Chain) api.Errno { return c.Merge(n) }, func(p *plain) (api.Errno, int, []api.ID) {
		if n < 2 || n > len(p.layers) {
			return api.ErrRange, 0, nil
		}
		kept := len(p.layers) - n
		below := len(slices.Concat(p.rows()[:kept]...))
		return api.OK, kept, p.covered()[below:]
	}}
}

func drop(n int) call {
	return call{fmt.Sprint("Drop ", n), func(c *Chain) api.Errno { return c.Drop(n) }, func(p *plain) (api.Errno, int, []api.ID) {
		if n < 1 || n > len(p.layers) {
			return api.ErrRange, 0, nil
		}
		return api.OK, len(p.layers) - n, nil
	}}
}

// step is what a call does: the raw writes, behind how many of them the chain is the new one, that one, and the new layer's file.
type step struct {
	raws  []raw
	swap  int
	after []named
	top   string
}

func (p *plain) step(o call) (step, api.Errno) {
	e, kept, ids := o.want(p)
	merges := strings.HasPrefix(o.what, "Merge")
	if e != api.OK || kept == len(p.layers) && len(ids) == 0 {
		return step{after: p.layers}, e
	}
	st := step{after: slices.Clone(p.layers[:kept])}
	if len(ids) > 0 || merges {
		top := named{number: 1}
		for p.there(top.file()) {
			top.number++
		}
		below := slices.Concat(p.rows()[:kept]...)
		rows, e := layer.Rows(p.s, below, ids...)
		if e != api.OK {
			panic(e)
		}
		top.bytes = layer.Encode(len(below), rows...)
		st.top = top.file()
		st.after = append(st.after, top)
		st.raws = append(st.raws, raw{verb: "put", name: st.top, bytes: top.bytes})
	}
	st.raws = append(st.raws, p.swapping(st.after)...)
	st.swap = len(st.raws)
	for _, l := range p.layers[kept:] {
		st.raws = append(st.raws, raw{verb: "remove", name: l.file()})
	}
	return st, api.OK
}

// do is the call on the plain chain's disk.
func (p *plain) do(o call) api.Errno {
	st, e := p.step(o)
	if e != api.OK {
		return e
	}
	for i, r := range st.raws {
		e := r.do(p.d)
		if e == api.ErrFull && r.name == "chain.new" && st.top != "" {
			if p.d.Remove(st.top) == api.ErrDead {
				return api.ErrDead
			}
		}
		if e != api.OK {
			return e
		}
		if i+1 == st.swap {
			p.layers = st.after
		}
	}
	return api.OK
}

// state tells all that a disk has.
func state(d *disk.Disk) string {
	var b strings.Builder
	for _, name := range d.Names() {
		file, _ := d.Read(name)
		fmt.Fprintf(&b, "%s:%d:%x ", name, len(file), crc32.ChecksumIEEE(file))
	}
	fmt.Fprintf(&b, "by %d writes, dead %v", d.Writes(), d.Dead())
	return b.String()
}

func alikeRows(a, b []layer.Row) bool { return slices.EqualFunc(a, b, alikeRow) }

// alikeRow takes an empty list for a nil one.
func alikeRow(a, b layer.Row) bool {
	return slices.Equal(a.Parents, b.Parents) && bytes.Equal(a.Filter, b.Filter) && reflect.DeepEqual(bare(a), bare(b))
}

func bare(row layer.Row) layer.Row {
	row.Parents, row.Filter = nil, nil
	return row
}

// wantTold asks the chain for all that the plain one tells, and for some that nobody tells.
func wantTold(t testing.TB, what string, c *Chain, p *plain) {
	t.Helper()
	var sizes []int
	var names []string
	for i, rows := range p.rows() {
		sizes, names = append(sizes, len(rows)), append(names, p.layers[i].file())
	}
	if list := c.Sizes(); !slices.Equal(list, sizes) {
		t.Errorf("%s: Sizes %v, want %v", what, list, sizes)
	}
	if list := c.Names(); !slices.Equal(list, names) {
		t.Errorf("%s: Names %v, want %v", what, list, names)
	}
	if list := c.Rows(); !alikeRows(list, p.stack()) {
		t.Errorf("%s: Rows %v, want %v", what, list, p.stack())
	}
	covered := p.covered()
	ids := slices.Concat(p.s.Commits(), []api.ID{0, 1, math.MaxUint64}, covered)
	for i := range covered {
		ids = append(ids, covered[i]+1, covered[i]-1)
	}
	for _, id := range ids {
		at, ok := c.Place(id)
		want := slices.Index(covered, id)
		if ok != (want >= 0) || at != max(want, 0) {
			t.Errorf("%s: Place of %x: %d, %v, want %d", what, id, at, ok, want)
		}
	}
}

func mustOpen(t testing.TB, d *disk.Disk) *Chain {
	t.Helper()
	c, e := Open(d, openStore(t, d))
	if e != api.OK || c == nil {
		t.Fatalf("Open: %v, %v", c, e)
	}
	return c
}

// wantOpened opens the disk and a clone of it by the words of the chapter, and holds all against each other.
func wantOpened(t testing.TB, d *disk.Disk) (*Chain, *plain) {
	t.Helper()
	like := d.Clone()
	s := openStore(t, d)
	p, wantE := openPlain(like, openStore(t, like))
	c, e := Open(d, s)
	if e != wantE || (c == nil) != (p == nil) || state(d) != state(like) {
		t.Fatalf("Open: %v, %v, want %v, %v\nthe disk %s\nwant     %s", c, e, p, wantE, state(d), state(like))
	}
	if c != nil {
		wantTold(t, "Open", c, p)
	}
	return c, p
}

// wantLayers holds a chain against layers that are known.
func wantLayers(t testing.TB, what string, d *disk.Disk, c *Chain, layers []named) {
	t.Helper()
	wantTold(t, what, c, &plain{d, c.store, layers})
	want := map[string][]byte{}
	for _, l := range layers {
		want[l.file()], want["chain"] = l.bytes, chainBytes(layers)
	}
	for _, name := range d.Names() {
		file, _ := d.Read(name)
		if b, ok := want[name]; ok && !bytes.Equal(file, b) {
			t.Errorf("%s: the file %s is %x, want %x", what, name, file, b)
		} else if !ok && (name == "chain" || name == "chain.new" || strings.HasPrefix(name, "layer.")) {
			t.Errorf("%s: the file %s is there", what, name)
		}
		delete(want, name)
	}
	if len(want) > 0 {
		t.Errorf("%s: of these files there are none: %v", what, want)
	}
}

// wantDone does a call on a chain and on the plain one, each on its disk, and holds all against each other.
func wantDone(t testing.TB, c *Chain, p *plain, o call) api.Errno {
	t.Helper()
	wantE := p.do(o)
	if e := o.do(c); e != wantE || state(c.disk) != state(p.d) {
		t.Errorf("%s: %v, want %v\nthe disk %s\nwant     %s", o.what, e, wantE, state(c.disk), state(p.d))
	}
	wantTold(t, o.what, c, p)
	return wantE
}

// wantDoneOn is wantDone on clones of a disk, whose power goes off behind so many raw writes (never, if they are below 0).
func wantDoneOn(t testing.TB, d *disk.Disk, after, keep int, o call) (*disk.Disk, api.Errno) {
	t.Helper()
	d = d.Clone()
	c := mustOpen(t, d)
	like := d.Clone()
	p, e := openPlain(like, openStore(t, like))
	if e != api.OK {
		t.Fatal(e)
	}
	if after >= 0 {
		d.Cut(after, keep)
		like.Cut(after, keep)
	}
	e = wantDone(t, c, p, o)
	if t.Failed() {
		t.Fatalf("%s, cut behind %d raw writes and %d bytes", o.what, after, keep)
	}
	return d, e
}

// stepOn is what the words of the chapter say of a call on a disk.
func stepOn(t testing.TB, d *disk.Disk, o call) (*plain, step, api.Errno) {
	t.Helper()
	d = d.Clone()
	p, e := openPlain(d, openStore(t, d))
	if e != api.OK {
		t.Fatal(e)
	}
	st, e := p.step(o)
	return p, st, e
}

func keepsOf() []int { return []int{0, 1, 9, 40, math.MaxInt} }

// wantWhole has the power go off at each raw write of a call, and again in the opening behind it: the chain is the one from before, or the one from after.
func wantWhole(t testing.TB, d *disk.Disk, o call, keeps ...int) {
	t.Helper()
	p, st, e := stepOn(t, d, o)
	if e != api.OK {
		t.Fatal(o.what, e)
	}
	for after := range len(st.raws) {
		want := p.layers
		if after >= st.swap {
			want = st.after
		}
		for _, keep := range keeps {
			cut, e := wantDoneOn(t, d, after, keep, o)
			if e != api.ErrDead || !cut.Dead() {
				t.Fatalf("%s, cut behind %d raw writes: %v", o.what, after, e)
			}
			cut.Restart()
			wantWholeOpening(t, cut, want, 0, 20)
		}
	}
	done, e := wantDoneOn(t, d, len(st.raws), 0, o)
	if e != api.OK || done.Dead() {
		t.Fatalf("%s: %v", o.what, e)
	}
	done.Restart()
	wantSameAgain(t, done, st.after)
}

// wantWholeOpening has the power go off at each raw write of an opening.
func wantWholeOpening(t testing.TB, d *disk.Disk, want []named, keeps ...int) {
	t.Helper()
	_, asked := opening(d, openStore(t, d))
	for after := range len(asked) {
		for _, keep := range keeps {
			cut := d.Clone()
			cut.Cut(after, keep)
			if c, _ := wantOpened(t, cut); c != nil || !cut.Dead() {
				t.Fatalf("Open, cut behind %d raw writes: %v", after, c)
			}
			// Asked of a dead disk it is cut likewise, with nothing more done.
			if c, _ := wantOpened(t, cut); c != nil {
				t.Fatalf("Open of a dead disk: %v", c)
			}
			cut.Restart()
			wantSameAgain(t, cut, want)
		}
	}
	whole := d.Clone()
	whole.Cut(len(asked), 0)
	wantOpened(t, whole)
	whole.Restart()
	wantSameAgain(t, whole, want)
}

// wantSameAgain opens a disk, and again: it is the same, and the second time nothing is written.
func wantSameAgain(t testing.TB, d *disk.Disk, want []named) {
	t.Helper()
	c, _ := wantOpened(t, d)
	wantLayers(t, "opened", d, c, want)
	was := state(d)
	d.Cut(0, 0)
	c, _ = wantOpened(t, d)
	wantLayers(t, "opened again", d, c, want)
	if state(d) != was {
		t.Errorf("opened again, the disk is %s, was %s", state(d), was)
	}
	d.Restart()
	if t.Failed() {
		t.FailNow()
	}
}

// wantAsked holds what the disk is asked for against what is known.
func wantAsked(t testing.TB, d *disk.Disk, o call, want ...string) {
	t.Helper()
	_, st, _ := stepOn(t, d, o)
	var asked []string
	for _, r := range st.raws {
		asked = append(asked, r.String())
	}
	if !slices.Equal(asked, want) {
		t.Errorf("%s: asked for %q, want %q", o.what, asked, want)
	}
	wantWhole(t, d, o, keepsOf()...)
}

func wantNoLayers(t testing.TB, c *Chain) {
	t.Helper()
	at, ok := c.Place(0)
	if len(c.Sizes()) != 0 || len(c.Rows()) != 0 || len(c.Names()) != 0 || at != 0 || ok {
		t.Error(c.Sizes(), c.Rows(), c.Names(), at, ok)
	}
}

func TestExamples(t *testing.T) {
	h := line(t, 3)
	c := mustOpen(t, h.d)
	if e := c.Write(); e != api.OK || !slices.Equal(c.Sizes(), []int{3}) || !slices.Equal(c.Names(), []string{"layer.1"}) {
		t.Error(e, c.Sizes(), c.Names())
	}
	h.commit(h.tree(), 9, 2)
	h.s = openStore(t, h.d)
	c, _ = Open(h.d, h.s)
	if e := c.Write(); e != api.OK || !slices.Equal(c.Sizes(), []int{3, 1}) || !slices.Equal(c.Names(), []string{"layer.1", "layer.2"}) {
		t.Error(e, c.Sizes(), c.Names())
	}
	if e := c.Merge(2); e != api.OK || !slices.Equal(c.Sizes(), []int{4}) || !slices.Equal(c.Names(), []string{"layer.3"}) || !slices.Equal(h.d.Names(), []string{"chain", "layer.3", "objects"}) {
		t.Error(e, c.Sizes(), c.Names(), h.d.Names())
	}
	h.d.Spoil("layer.3", 50, 4)
	wantNoLayers(t, mustOpen(t, h.d))
	if !slices.Equal(h.d.Names(), []string{"objects"}) {
		t.Error(h.d.Names())
	}
}

// The store that was handed in is worked with: what it is told behind the opening counts.
func TestTheStoreGoesOn(t *testing.T) {
	h := line(t, 1)
	c, e := Open(h.d, h.s)
	if e != api.OK {
		t.Fatal(e)
	}
	for i := range 4 {
		if e := c.Write(); e != api.OK || len(c.Sizes()) != i+1 {
			t.Error(e, c.Sizes())
		}
		h.commit(h.tree(), 0, i)
	}
	wantOpened(t, h.d)
}

// Chains of the small history, reckoned elsewhere.
func TestKnownChains(t *testing.T) {
	const (
		layer1  = "46424c3100000000000000021df19009e2f0ef3b049198c3921191e00000000000000000010000000102000401080491a6e4048fdf469b9b761014fa5411f40a0000000000000005000100060100510c90810808e019"
		layer2  = "46424c31000000020000000235e083321c5c01bf7d7e9e3df7ac7f6d00000000000000070200000003000000000300090100701080158800439d42947f90f9596a761014fa5411f40a0000010000000000010000000102000201008ec27550"
		layer3  = "46424c3100000004000000031700e91341e4ff8dcf3bb7fbf9e97d650000000000000008020000000500000001050001022810167c95e2fb51af63bf4c8601bb4500000000000000070100000002040007010000113814c263aa4f52a58636f1f00de059cce63b050000000000000009010000000406000d011822110a026815441204020027bcebbb"
		merged2 = "46424c3100000002000000051700e91341e4ff8dcf3bb7fbf9e97d650000000000000008020000000300000001050001022810167c95e2fb51af63bf4c8601bb4500000000000000070100000004040007010000113814c235e083321c5c01bf7d7e9e3df7ac7f6d000000000000000702000000060000000003000901007010801588004363aa4f52a58636f1f00de059cce63b050000000000000009010000000206000d011822110a02681544120402009d42947f90f9596a761014fa5411f40a0000010000000000010000000102000201009e407385"
		merged3 = "46424c3100000000000000071700e91341e4ff8dcf3bb7fbf9e97d650000000000000008020000000200000006050001021df19009e2f0ef3b049198c3921191e000000000000000000100000006020004010804912810167c95e2fb51af63bf4c8601bb4500000000000000070100000003040007010000113814c235e083321c5c01bf7d7e9e3df7ac7f6d000000000000000702000000050000000103000901007010801588004363aa4f52a58636f1f00de059cce63b050000000000000009010000000006000d011822110a02681544120402009d42947f90f9596a761014fa5411f40a000001000000000001000000060200020100a6e4048fdf469b9b761014fa5411f40a0000000000000005000100060100510c9081ab2b29c3"
	)
	h := small(t)
	c := mustOpen(t, h.d)
	for _, x := range []struct {
		o     call
		files map[string]string
	}{
		{write(h.ids[1]), map[string]string{"chain": "000000080900000001920737e8a1b06c49", "layer.1": layer1}},
		{write(h.ids[3]), map[string]string{"chain": "000000100900000001920737e800000002ed313e8f3627b797", "layer.1": layer1, "layer.2": layer2}},
		{write(), map[string]string{"chain": "000000180900000001920737e800000002ed313e8f00000003b362adc93e717ae1", "layer.1": layer1, "layer.2": layer2, "layer.3": layer3}},
		{merge(2), map[string]string{"chain": "000000100900000001920737e800000004fe7ff8970f03f212", "layer.1": layer1, "layer.4": merged2}},
		{merge(2), map[string]string{"chain": "000000080900000002ad0d5f76f95c2454", "layer.2": merged3}},
		{drop(1), map[string]string{}},
	} {
		if e := x.o.do(c); e != api.OK {
			t.Errorf("%s: %v", x.o.what, e)
		}
		objects, _ := h.d.Read("objects")
		x.files["objects"] = hex.EncodeToString(objects)
		for _, name := range h.d.Names() {
			file, _ := h.d.Read(name)
			if hex.EncodeToString(file) != x.files[name] {
				t.Errorf("%s: the file %s is %x, want %s", x.o.what, name, file, x.files[name])
			}
		}
		if len(h.d.Names()) != len(x.files) {
			t.Errorf("%s: the files are %v", x.o.what, h.d.Names())
		}
		wantOpened(t, h.d.Clone())
	}
}

// P13.1: of a disk without a chain.
func TestOpenOfNothing(t *testing.T) {
	for _, h := range []*history{newHistory(t), line(t, 3)} {
		for range 2 {
			h.d.Cut(0, 0)
			was := state(h.d)
			wantNoLayers(t, mustOpen(t, h.d))
			if state(h.d) != was {
				t.Errorf("%s, was %s", state(h.d), was)
			}
			h.d.Restart()
			h.fill(20)
		}
	}
	// A dead disk is read as any, where nothing is to be written.
	h := line(t, 3)
	kill(h.d)
	wantNoLayers(t, mustOpen(t, h.d))
}

// kill lets the power go off in a raw write of a file that stays as it is.
func kill(d *disk.Disk) {
	d.Cut(0, 0)
	d.Trim("objects", 0)
}

// five is a line in five layers, unlike in size, whose files aren't in the order of their numbers.
func five(t testing.TB) (*history, []named) {
	t.Helper()
	h := line(t, 10)
	layers := h.layers([]int{0, 1}, []int{2}, []int{3, 4, 5}, []int{6}, []int{7, 8})
	for i, number := range []uint32{7, 2, 12, 4294967295, 1} {
		layers[i].number = number
	}
	h.put(chainBytes(layers), layers...)
	return h, layers
}

// P13.1: what is whole stays, whatever the numbers.
func TestOpenOfGoodLayers(t *testing.T) {
	h, layers := five(t)
	wantSameAgain(t, h.d, layers)
	c := mustOpen(t, h.d)
	if !slices.Equal(c.Names(), []string{"layer.7", "layer.2", "layer.12", "layer.4294967295", "layer.1"}) || !slices.Equal(c.Sizes(), []int{2, 1, 3, 1, 2}) {
		t.Error(c.Names(), c.Sizes())
	}
	kill(h.d)
	c, _ = wantOpened(t, h.d)
	wantLayers(t, "dead", h.d, c, layers)
	for n := 1; n <= 7; n++ {
		h := line(t, 7)
		var parts [][]int
		for i := range n {
			parts = append(parts, []int{i})
		}
		layers := h.layers(parts...)
		h.put(chainBytes(layers), layers...)
		if n > 6 {
			layers = nil
		}
		wantWholeOpening(t, h.d, layers, 0)
	}
	// Layers without rows are taken as Verify takes them.
	h = line(t, 4)
	layers = h.layers(nil, nil, []int{0, 1}, nil, []int{2})
	h.put(chainBytes(layers), layers...)
	wantSameAgain(t, h.d, layers)
	for _, o := range []call{merge(2), merge(3), merge(5), drop(1), drop(2), drop(3), drop(4), drop(5), write(), write(h.ids[2])} {
		wantDoneOn(t, h.d, -1, 0, o)
	}
	h = line(t, 4)
	layers = h.layers(nil, nil, nil)
	h.put(chainBytes(layers), layers...)
	wantWhole(t, h.d, merge(2), keepsOf()...)
	wantWhole(t, h.d, write(), keepsOf()...)
}

// badChains are chain files of a history with these layers that are no chain's, though the layers are good.
func badChains(layers []named) map[string][]byte {
	body, good := chainBody(layers), chainBytes(layers)
	bad := map[string][]byte{
		"empty": {}, "a byte": {9}, "a text": []byte("chain"), "zeros": make([]byte, 17), "a body alone": body,
		"a byte behind": append(slices.Clone(good), 0), "two frames": slices.Concat(good, good), "a byte ahead": append([]byte{0}, good...), "a frame of nothing behind": slices.Concat(good, sealed(9, nil)),
		"no layer": sealed(9, nil), "half a layer": sealed(9, body[:4]), "a byte of a layer": sealed(9, body[:1]), "a byte too few": sealed(9, body[:len(body)-1]), "a byte too many": sealed(9, append(slices.Clone(body), 1)), "a number too many": sealed(9, append(slices.Clone(body), 0, 0, 0, 9)),
		"of the greatest size": sealed(9, bytes.Repeat(body[:8], 1024)), "of more than that": sealed(9, make([]byte, 8200)), "a long file": make([]byte, 262144), "of ones": bytes.Repeat([]byte{255}, 60),
		"zeros behind": append(slices.Clone(good), make([]byte, 40)...),
	}
	for _, kind := range []byte{0, 1, 3, 4, 5, 8, 10, 11, 128 + 9, 255} {
		bad[fmt.Sprint("of kind ", kind)] = sealed(kind, body)
	}
	for at := range layers {
		zero, twice := slices.Clone(layers), slices.Clone(layers)
		zero[at].number = 0
		bad[fmt.Sprint("number 0 at ", at)] = chainBytes(zero)
		twice[at].number = twice[(at+1)%len(layers)].number
		bad[fmt.Sprint("a number twice at ", at)] = chainBytes(twice)
		bad[fmt.Sprint("named again: ", at)] = chainBytes(append(slices.Clone(layers), layers[at]))
	}
	return bad
}

// P13.1: a chain file that is none names nothing: it goes, and all layers with it.
func TestOpenOfAWrongChainFile(t *testing.T) {
	h, layers := five(t)
	// So that the number 0 has a file with what would be right there.
	for _, at := range []int{0, 2} {
		zero := layers[at]
		zero.number = 0
		h.put(nil, zero)
		for what, file := range badChains(layers) {
			d := h.d.Clone()
			d.Put("chain", file)
			d.Put("stays")
			wantWholeOpening(t, d, nil, 0, 3)
			c, _ := wantOpened(t, d)
			wantNoLayers(t, c)
			if !slices.Equal(d.Names(), []string{"objects", "stays"}) {
				t.Errorf("%s: %v", what, d.Names())
			}
		}
	}
	// Each told twice would be taken, but for the numbers.
	h = line(t, 1)
	none := h.layers(nil)[0]
	h.put(chainBytes([]named{none, none}), none)
	wantWholeOpening(t, h.d, nil, 0)
}

// P13.1: each place of the chain file cut off, each byte turned.
func TestOpenOfAChainFileThatIsChanged(t *testing.T) {
	h, layers := five(t)
	good := chainBytes(layers)
	for at := range good {
		d := h.d.Clone()
		d.Put("chain", good[:at])
		c, _ := wantOpened(t, d)
		wantLayers(t, fmt.Sprint("cut at ", at), d, c, nil)
		d = h.d.Clone()
		d.Spoil("chain", at, byte(1<<(at%8)))
		c, _ = wantOpened(t, d)
		wantLayers(t, fmt.Sprint("turned at ", at), d, c, nil)
		// A body that is changed and sealed anew: another number has no file, another check sum isn't the file's.
		if at >= 5 && at < len(good)-4 {
			body := chainBody(layers)
			body[at-5] ^= 1 << (at % 8)
			d = h.d.Clone()
			d.Put("chain", sealed(9, body))
			c, _ = wantOpened(t, d)
			want := layers[:(at-5)/8]
			if numbers, _ := readNamed(sealed(9, body)); numbers == nil {
				want = nil
			}
			wantLayers(t, fmt.Sprint("sealed anew at ", at), d, c, want)
		}
	}
}

// lies are rows that say something else than the objects.
func lies(rows []layer.Row) map[string][]layer.Row {
	all := map[string][]layer.Row{}
	add := func(what string, change func(row *layer.Row)) {
		l := slices.Clone(rows)
		last := &l[len(l)-1]
		last.Parents, last.Filter = slices.Clone(last.Parents), slices.Clone(last.Filter)
		change(last)
		all[what] = l
	}
	add("another ID", func(row *layer.Row) { row.ID++ })
	add("the ID of a tree", func(row *layer.Row) { row.ID = row.Tree })
	add("another tree", func(row *layer.Row) { row.Tree++ })
	add("another date", func(row *layer.Row) { row.Date++ })
	add("a generation more", func(row *layer.Row) { row.Generation++ })
	add("no generation", func(row *layer.Row) { row.Generation = 0 })
	add("a parent more", func(row *layer.Row) { row.Parents = append(row.Parents, 0) })
	add("other parents", func(row *layer.Row) { row.Parents = append([]int{77}, row.Parents...)[:max(1, len(row.Parents))] })
	add("a wide filter", func(row *layer.Row) { row.Filter = []byte{2} })
	add("no filter", func(row *layer.Row) { row.Filter = nil })
	add("a bit of the filter", func(row *layer.Row) { row.Filter[1] ^= 1 })
	all["a row twice"] = append(slices.Clone(rows), rows[0])
	return all
}

// badLayers are bytes in the place of those of a layer, with their own check sum in the chain file.
func badLayers(l named) map[string][]byte {
	below, rows, _ := layer.Decode(l.bytes)
	bad := map[string][]byte{
		"nothing": {}, "a byte": {1}, "a byte less": l.bytes[:len(l.bytes)-1], "a byte more": append(slices.Clone(l.bytes), 0),
		"above more": layer.Encode(below+1, rows...), "above far more": layer.Encode(math.MaxInt32, rows...),
	}
	if below > 0 {
		bad["above fewer"] = layer.Encode(below-1, rows...)
	}
	if len(rows) > 1 {
		turned := slices.Clone(rows)
		slices.Reverse(turned)
		bad["turned"] = layer.Encode(below, turned...)
	}
	for what, rows := range lies(rows) {
		bad[what] = layer.Encode(below, rows...)
	}
	return bad
}

// P13.1: a layer that isn't good goes, with all above it; those below stay.
func TestOpenOfAWrongLayer(t *testing.T) {
	h, layers := five(t)
	for at, l := range layers {
		gone := h.d.Clone()
		gone.Remove(l.file())
		wantWholeOpening(t, gone, layers[:at], keepsOf()...)
		for what, file := range badLayers(l) {
			for _, known := range []bool{true, false} {
				d := h.d.Clone()
				d.Put(l.file(), file)
				if known {
					changed := slices.Clone(layers)
					changed[at].bytes = file
					d.Put("chain", chainBytes(changed))
				}
				wantWholeOpening(t, d, layers[:at], 0, 20)
				if t.Failed() {
					t.Fatalf("%d: %s", at, what)
				}
			}
		}
		for other := range layers {
			if other != at {
				d := h.d.Clone()
				d.Put(l.file(), layers[other].bytes)
				wantWholeOpening(t, d, layers[:at], 0)
				changed := slices.Clone(layers)
				changed[at].bytes = layers[other].bytes
				d.Put("chain", chainBytes(changed))
				wantWholeOpening(t, d, layers[:at], 0)
			}
		}
	}
	// Two at once: the lower one counts.
	for at := range layers {
		for other := range layers {
			d := h.d.Clone()
			d.Spoil(layers[at].file(), 30, 1)
			d.Remove(layers[other].file())
			wantWholeOpening(t, d, layers[:min(at, other)], 0)
		}
	}
}

// P13.1: each byte of a layer's file turned, or cut off there.
func TestOpenOfALayerThatIsChanged(t *testing.T) {
	h := small(t)
	layers := h.layers([]int{0, 1}, []int{2, 3}, []int{4, 5, 6})
	h.put(chainBytes(layers), layers...)
	for at, l := range layers {
		for i := range l.bytes {
			d := h.d.Clone()
			d.Spoil(l.file(), i, byte(1<<(i%8)))
			c, _ := wantOpened(t, d)
			wantLayers(t, fmt.Sprint("turned at ", i), d, c, layers[:at])
			d = h.d.Clone()
			d.Trim(l.file(), i)
			c, _ = wantOpened(t, d)
			wantLayers(t, fmt.Sprint("cut at ", i), d, c, layers[:at])
		}
	}
}

// P13.1: layers in another order are as good as what is below them.
func TestOpenOfLayersInAnotherOrder(t *testing.T) {
	h, layers := five(t)
	for i := range layers {
		for j := range i {
			changed := slices.Clone(layers)
			changed[i], changed[j] = changed[j], changed[i]
			d := h.d.Clone()
			d.Put("chain", chainBytes(changed))
			wantWholeOpening(t, d, layers[:j], 0)
		}
		// One that is left out takes away what stood above it.
		d := h.d.Clone()
		d.Put("chain", chainBytes(slices.Delete(slices.Clone(layers), i, i+1)))
		wantWholeOpening(t, d, layers[:i], 0)
	}
	// One that is named by another number, of which there is a file, is good there.
	other := slices.Clone(layers)
	other[4].number = 3
	h.put(chainBytes(other), other[4])
	wantWholeOpening(t, h.d, other, 0)
}

// P13.1: a store that has lost commits has lost the layers that tell of them.
func TestOpenOfAStoreThatWasCut(t *testing.T) {
	h := newHistory(t)
	tree := h.tree("a=1")
	h.commit(tree, 0)
	for i := range 4 {
		h.commit(tree, 0, i)
	}
	layers := h.layers([]int{0}, []int{1}, []int{2}, []int{3}, []int{4})
	h.put(chainBytes(layers), layers...)
	file, _ := h.d.Read("objects")
	for size := range file {
		d := h.d.Clone()
		d.Trim("objects", size)
		left := len(openStore(t, d).Commits())
		wantWholeOpening(t, d, layers[:left], 0)
	}
}

// P13.1: what is left over goes, by rising name; what only looks like it stays.
func TestOpenOfOtherFiles(t *testing.T) {
	left := []string{"chain.new", "layer.", "layer..", "layer.0", "layer.00", "layer.01", "layer.07", "layer.1.", "layer.10", "layer.4294967296", "layer._", "layer.a", "layer.layer.1", "layer.new"}
	stay := []string{".chain.new", ".layer.1", "alayer.1", "chain.", "chain.ne", "chain.new.", "chain.news", "chain_new", "chains", "laye", "layer", "layer1", "layer_1", "layers.1", "objects", "zchain.new"}
	for _, good := range []int{0, 1, 3} {
		h := line(t, 5)
		layers := h.layers([]int{0}, []int{1}, []int{2})[:good]
		for i := range layers {
			layers[i].number = []uint32{1, 7, 5}[i]
		}
		if good > 0 {
			h.put(chainBytes(layers), layers...)
		}
		chosen := left[:len(left)-good]
		for i, name := range slices.Concat(chosen, stay[:len(stay)-good-1]) {
			if name != "objects" {
				h.file(name, bytes.Repeat([]byte{1}, i))
			}
		}
		was := h.d.Names()
		for after, name := range chosen {
			d := h.d.Clone()
			d.Cut(after, 0)
			wantOpened(t, d)
			gone := func(name string) bool { return slices.Contains(chosen[:after], name) }
			if !slices.Equal(d.Names(), slices.DeleteFunc(slices.Clone(was), gone)) || !d.Dead() {
				t.Fatalf("cut ahead of %s: %v", name, d.Names())
			}
		}
		wantWholeOpening(t, h.d, layers, 0)
		wantOpened(t, h.d)
		gone := func(name string) bool { return slices.Contains(chosen, name) }
		if !slices.Equal(h.d.Names(), slices.DeleteFunc(was, gone)) {
			t.Error(h.d.Names())
		}
	}
}

// P13.1: what chain.new has is nobody's, also if it is a good chain file.
func TestOpenWithANextChainFile(t *testing.T) {
	h, layers := five(t)
	for _, next := range [][]byte{nil, {1, 2, 3}, chainBytes(layers[:2]), chainBytes(layers), chainBytes(nil)} {
		d := h.d.Clone()
		d.Put("chain.new", next)
		wantWholeOpening(t, d, layers, keepsOf()...)
		d.Spoil("layer.12", 5, 1)
		wantWholeOpening(t, d, layers[:2], keepsOf()...)
		d.Remove("chain")
		wantWholeOpening(t, d, nil, keepsOf()...)
	}
}

// P13.1: on a full disk a chain file isn't swapped, but removed.
func TestOpenOfAFullDisk(t *testing.T) {
	h, layers := five(t)
	h.fill(32)
	wantSameAgain(t, h.d.Clone(), layers)
	d := h.d.Clone()
	d.Spoil("layer.2", 0, 1)
	was := state(d)
	for range 2 {
		if c, e := Open(d, openStore(t, d)); c != nil || e != api.ErrFull || state(d) != was {
			t.Errorf("%v, %v, %s, was %s", c, e, state(d), was)
		}
		wantOpened(t, d)
	}
	// With room for it, or with one in whose place it comes, it is.
	roomy := d.Clone()
	roomy.Remove("f0")
	wantWholeOpening(t, roomy, layers[:1], keepsOf()...)
	roomy.Put("chain.new", []byte("x"))
	wantWholeOpening(t, roomy, layers[:1], keepsOf()...)
	d.Spoil("layer.7", 0, 1)
	wantWholeOpening(t, d, nil, keepsOf()...)
}

// shapes is a history with roots, merges and branches:
// 0 - 1 - 2 - - 6 - 7, 1 - 3 - 4 - 6, 5 alone, 8 above 5 and 2.
func shapes(t testing.TB) *history {
	h := newHistory(t)
	for i, parents := range [][]int{nil, {0}, {1}, {1}, {3}, nil, {2, 4}, {6}, {5, 2}} {
		h.commit(h.tree(fmt.Sprint("a=", i%3), fmt.Sprint("b/c=", i%2)), int64(i), parents...)
	}
	return h
}

// wantRowsOf holds the layers of a chain against the numbers of the commits that they have.
func wantRowsOf(t testing.TB, what string, h *history, c *Chain, want ...[]int) {
	t.Helper()
	rows := c.Rows()
	for i, size := range c.Sizes() {
		var numbers []int
		for _, row := range rows[:size] {
			numbers = append(numbers, slices.Index(h.ids, row.ID))
		}
		slices.Sort(numbers)
		if i >= len(want) || !slices.Equal(numbers, want[i]) {
			t.Errorf("%s: layer %d has %v, want %v", what, i, numbers, want)
		}
		rows = rows[size:]
	}
	if len(c.Sizes()) != len(want) || len(rows) > 0 {
		t.Errorf("%s: %v, want %v", what, c.Sizes(), want)
	}
}

// P13.2: of which commits the new layer is.
func TestWrite(t *testing.T) {
	h := shapes(t)
	all := numbered(0, 9)
	for _, x := range []struct {
		calls [][]int
		want  [][]int
	}{
		{[][]int{{}}, [][]int{all}},
		{[][]int{{0}}, [][]int{{0}}},
		{[][]int{{5}}, [][]int{{5}}},
		{[][]int{{4}}, [][]int{{0, 1, 3, 4}}},
		{[][]int{{8}}, [][]int{{0, 1, 2, 5, 8}}},
		{[][]int{{7}}, [][]int{{0, 1, 2, 3, 4, 6, 7}}},
		{[][]int{{7, 8}}, [][]int{all}},
		{[][]int{{8, 7, 8, 0, 0, 7}}, [][]int{all}},
		{[][]int{{0, 5, 0}}, [][]int{{0, 5}}},
		{[][]int{{2}, {4}}, [][]int{{0, 1, 2}, {3, 4}}},
		{[][]int{{2}, {2}, {1}, {0, 1, 2}}, [][]int{{0, 1, 2}}},
		{[][]int{{2}, {0, 4, 1}, {}}, [][]int{{0, 1, 2}, {3, 4}, {5, 6, 7, 8}}},
		{[][]int{{}, {}, {7}, {0, 8}}, [][]int{all}},
		{[][]int{{8}, {7}, {}}, [][]int{{0, 1, 2, 5, 8}, {3, 4, 6, 7}}},
		{[][]int{{0}, {1}, {2}, {3}, {4}, {6}}, [][]int{{0}, {1}, {2}, {3}, {4}, {6}}},
		{[][]int{{5}, {2}, {3}, {8}, {6}, {}, {0}}, [][]int{{5}, {0, 1, 2}, {3}, {8}, {4, 6}, {7}}},
	} {
		d := h.d.Clone()
		c, p := wantOpened(t, d)
		p.d = d.Clone()
		for _, tips := range x.calls {
			if e := wantDone(t, c, p, write(h.of(tips...)...)); e != api.OK {
				t.Errorf("Write of %v: %v", tips, e)
			}
		}
		wantRowsOf(t, fmt.Sprint(x.calls), h, c, x.want...)
		wantSameAgain(t, d, p.layers)
	}
	// Of a store without commits.
	h = newHistory(t)
	c, p := wantOpened(t, h.d)
	p.d = h.d.Clone()
	wantDone(t, c, p, write())
	h.tree("a=x")
	wantDoneOn(t, h.d, 0, 0, write())
}

func numbered(from, n int) []int {
	var list []int
	for i := range n {
		list = append(list, from+i)
	}
	return list
}

// P13.2: a commit that comes to the store behind a layer isn't covered by it.
func TestWriteOfLaterCommits(t *testing.T) {
	h := shapes(t)
	c, e := Open(h.d, h.s)
	if e != api.OK || c.Write() != api.OK {
		t.Fatal(e)
	}
	h.commit(h.tree(), 0, 7, 8)
	h.commit(h.tree(), 0)
	h.commit(h.tree(), 0, 10, 9)
	if _, ok := c.Place(h.ids[9]); ok {
		t.Error("covered")
	}
	if e := c.Write(h.ids[10]); e != api.OK {
		t.Error(e)
	}
	if e := c.Write(); e != api.OK {
		t.Error(e)
	}
	wantRowsOf(t, "later", h, c, numbered(0, 9), []int{10}, []int{9, 11})
}

// six is a line in six layers, with two commits that aren't covered, and one beside.
func six(t testing.TB) *history {
	h := line(t, 8)
	h.commit(h.tree(), 0)
	c := mustOpen(t, h.d)
	for i := range 6 {
		if e := c.Write(h.ids[i]); e != api.OK {
			t.Fatal(e)
		}
	}
	return h
}

// P13.2: what is refused, in the order of the promise.
func TestWriteRefused(t *testing.T) {
	h := six(t)
	blob, _ := h.s.Blob([]byte("0"))
	tree := h.tree()
	for _, dead := range []bool{false, true} {
		d := h.d.Clone()
		c, p := wantOpened(t, d)
		if dead {
			kill(d)
		}
		p.d = d.Clone()
		was := state(d)
		for _, x := range []struct {
			tips []api.ID
			want api.Errno
		}{
			{nil, api.ErrMany}, {h.of(6), api.ErrMany}, {h.of(7), api.ErrMany}, {h.of(8), api.ErrMany}, {h.of(0, 6), api.ErrMany}, {h.of(6, 0), api.ErrMany}, {h.of(8, 8), api.ErrMany},
			{h.of(0), api.OK}, {h.of(5), api.OK}, {h.of(0, 1, 2, 3, 4, 5), api.OK}, {h.of(3, 3), api.OK},
			{[]api.ID{7}, api.ErrMissing}, {[]api.ID{0}, api.ErrMissing}, {[]api.ID{blob}, api.ErrMissing}, {[]api.ID{tree}, api.ErrMissing}, {[]api.ID{h.ids[0] + 1}, api.ErrMissing}, {[]api.ID{math.MaxUint64}, api.ErrMissing},
			{append(h.of(0), 7), api.ErrMissing}, {append(h.of(6), 7), api.ErrMissing}, {append([]api.ID{7}, h.of(6)...), api.ErrMissing}, {append([]api.ID{7}, h.of(0)...), api.ErrMissing}, {append(h.of(0, 1, 6, 7, 8), tree, 0), api.ErrMissing},
		} {
			if e := wantDone(t, c, p, write(x.tips...)); e != x.want {
				t.Errorf("Write of %x: %v, want %v", x.tips, e, x.want)
			}
		}
		if state(d) != was {
			t.Errorf("%s, was %s", state(d), was)
		}
	}
	// Without a layer, on a disk that is full or dead.
	h = line(t, 2)
	h.fill(32)
	kill(h.d)
	c, p := wantOpened(t, h.d)
	p.d = h.d.Clone()
	for _, x := range []struct {
		tips []api.ID
		want api.Errno
	}{{[]api.ID{7}, api.ErrMissing}, {append(h.of(0), 7), api.ErrMissing}, {nil, api.ErrFull}, {h.of(1), api.ErrFull}} {
		if e := wantDone(t, c, p, write(x.tips...)); e != x.want {
			t.Errorf("Write of %x: %v, want %v", x.tips, e, x.want)
		}
	}
	// Six layers, and nothing left: merged, there is room again.
	h = six(t)
	c = mustOpen(t, h.d)
	if c.Merge(2) != api.OK || c.Write(h.ids[6]) != api.OK || c.Write() != api.ErrMany || c.Merge(6) != api.OK || c.Write() != api.OK || c.Write() != api.OK {
		t.Error(c.Sizes())
	}
	wantRowsOf(t, "merged", h, c, numbered(0, 7), []int{7, 8})
}

// P13.2: Merge and Drop of every n, with every number of layers.
func TestMergeAndDrop(t *testing.T) {
	h := line(t, 12)
	c := mustOpen(t, h.d)
	far := []int{math.MinInt, math.MinInt + 1, math.MinInt32, -1 << 32, -7, -2, -1, 0, 1, 2, 3, 4, 5, 6, 7, 8, 250, 1 << 31, 1<<32 + 2, math.MaxInt - 1, math.MaxInt}
	for layers := 0; ; layers++ {
		for _, n := range far {
			_, e := wantDoneOn(t, h.d, -1, 0, merge(n))
			if e != api.OK != (n < 2 || n > layers) || e != api.OK && e != api.ErrRange {
				t.Errorf("Merge of %d of %d: %v", n, layers, e)
			}
			if e == api.OK {
				wantWhole(t, h.d, merge(n), 0, 17)
			}
			_, e = wantDoneOn(t, h.d, -1, 0, drop(n))
			if e != api.OK != (n < 1 || n > layers) || e != api.OK && e != api.ErrRange {
				t.Errorf("Drop of %d of %d: %v", n, layers, e)
			}
			if e == api.OK {
				wantWhole(t, h.d, drop(n), 0, 17)
			}
		}
		if layers == 6 {
			break
		}
		if e := c.Write(h.ids[2*layers+1]); e != api.OK {
			t.Fatal(e)
		}
	}
	// What a number out of range is asked of changes nothing, on a dead disk neither.
	kill(h.d)
	c, p := wantOpened(t, h.d)
	p.d = h.d.Clone()
	for _, n := range far {
		for _, o := range []call{merge(n), drop(n)} {
			if e := wantDone(t, c, p, o); e != api.ErrRange && e != api.ErrDead {
				t.Errorf("%s: %v", o.what, e)
			}
		}
	}
}

// P13.2: what is merged, and what goes, by hand.
func TestWhatIsMerged(t *testing.T) {
	h := shapes(t)
	start := [][]int{{2}, {4}, {8}, {7}}
	for _, x := range []struct {
		o    call
		want [][]int
	}{
		{merge(2), [][]int{{0, 1, 2}, {3, 4}, {5, 6, 7, 8}}},
		{merge(3), [][]int{{0, 1, 2}, {3, 4, 5, 6, 7, 8}}},
		{merge(4), [][]int{numbered(0, 9)}},
		{drop(1), [][]int{{0, 1, 2}, {3, 4}, {5, 8}}},
		{drop(2), [][]int{{0, 1, 2}, {3, 4}}},
		{drop(3), [][]int{{0, 1, 2}}},
		{drop(4), nil},
		{write(), [][]int{{0, 1, 2}, {3, 4}, {5, 8}, {6, 7}}},
	} {
		d := h.d.Clone()
		c := mustOpen(t, d)
		for _, tips := range start {
			c.Write(h.of(tips...)...)
		}
		d2, _ := wantDoneOn(t, d, -1, 0, x.o)
		wantRowsOf(t, x.o.what, h, mustOpen(t, d2), x.want...)
		if e := x.o.do(c); e != api.OK {
			t.Error(x.o.what, e)
		}
		wantRowsOf(t, x.o.what, h, c, x.want...)
	}
}

// P13.3: what the disk is asked for, in which order.
func TestOrderOfRawWrites(t *testing.T) {
	h := line(t, 9)
	wantAsked(t, h.d, write(h.ids[1]), "put layer.1", "put chain.new", "rename chain.new chain")
	c := mustOpen(t, h.d)
	for i := range 4 {
		c.Write(h.ids[i])
	}
	swap := []string{"put chain.new", "rename chain.new chain"}
	for _, x := range []struct {
		o    call
		want []string
	}{
		{write(), slices.Concat([]string{"put layer.5"}, swap)},
		{write(h.ids[3]), nil},
		{merge(2), slices.Concat([]string{"put layer.5"}, swap, []string{"remove layer.3", "remove layer.4"})},
		{merge(3), slices.Concat([]string{"put layer.5"}, swap, []string{"remove layer.2", "remove layer.3", "remove layer.4"})},
		{merge(4), slices.Concat([]string{"put layer.5"}, swap, []string{"remove layer.1", "remove layer.2", "remove layer.3", "remove layer.4"})},
		{drop(1), slices.Concat(swap, []string{"remove layer.4"})},
		{drop(3), slices.Concat(swap, []string{"remove layer.2", "remove layer.3", "remove layer.4"})},
		{drop(4), []string{"remove chain", "remove layer.1", "remove layer.2", "remove layer.3", "remove layer.4"}},
	} {
		wantAsked(t, h.d, x.o, x.want...)
	}
	// By the order of the layers, not by that of their names.
	h, _ = five(t)
	wantAsked(t, h.d, drop(5), "remove chain", "remove layer.7", "remove layer.2", "remove layer.12", "remove layer.4294967295", "remove layer.1")
	wantAsked(t, h.d, merge(4), slices.Concat([]string{"put layer.3"}, swap, []string{"remove layer.2", "remove layer.12", "remove layer.4294967295", "remove layer.1"})...)
	wantAsked(t, h.d, write(), slices.Concat([]string{"put layer.3"}, swap)...)
}

// P13.3: the number of a new layer's file is the least that is free.
func TestNumbers(t *testing.T) {
	h := line(t, 20)
	c := mustOpen(t, h.d)
	next := 0
	more := func() { c.Write(h.ids[next]); next++ }
	want := func(numbers ...int) {
		t.Helper()
		var names []string
		for _, n := range numbers {
			names = append(names, fmt.Sprint("layer.", n))
		}
		if !slices.Equal(c.Names(), names) {
			t.Errorf("%v, want %v", c.Names(), names)
		}
		wantOpened(t, h.d.Clone())
	}
	want()
	more()
	more()
	more()
	want(1, 2, 3)
	c.Merge(2)
	want(1, 4)
	more()
	want(1, 4, 2)
	more()
	more()
	want(1, 4, 2, 3, 5)
	c.Merge(3)
	want(1, 4, 6)
	c.Merge(3)
	want(2)
	next = 6
	more()
	more()
	want(2, 1, 3)
	c.Drop(2)
	next -= 2
	more()
	want(2, 1)
	c.Drop(2)
	want()
	c.Write()
	want(1)
}

// P13.3, P13.4: the power goes off at each byte of what is put.
func TestThePowerGoesOffAtEachByte(t *testing.T) {
	h := line(t, 3)
	c := mustOpen(t, h.d)
	c.Write(h.ids[0])
	c.Write(h.ids[1])
	for _, o := range []call{write(), merge(2), drop(1)} {
		_, st, _ := stepOn(t, h.d, o)
		for after, r := range st.raws {
			for keep := range len(r.bytes) + 2 {
				cut, _ := wantDoneOn(t, h.d, after, keep, o)
				cut.Restart()
				want := [][]int{{0}, {1}}
				if after >= st.swap {
					want = map[byte][][]int{'W': {{0}, {1}, {2}}, 'M': {{0, 1}}, 'D': {{0}}}[o.what[0]]
				}
				c, _ := wantOpened(t, cut)
				wantRowsOf(t, o.what, h, c, want...)
			}
		}
	}
}

// P13.3: the chain tells the new layers as soon as the chain file is swapped, and the old ones till then.
func TestWhatIsToldOfADeadDisk(t *testing.T) {
	h := line(t, 5)
	c := mustOpen(t, h.d)
	c.Write(h.ids[0])
	c.Write(h.ids[1])
	c.Write(h.ids[2])
	old := []int{1, 1, 1}
	for _, x := range []struct {
		o     call
		after int
		want  []int
		e     api.Errno
	}{
		{write(), 0, old, api.ErrDead}, {write(), 1, old, api.ErrDead}, {write(), 2, old, api.ErrDead}, {write(), 3, []int{1, 1, 1, 2}, api.OK},
		{merge(2), 0, old, api.ErrDead}, {merge(2), 1, old, api.ErrDead}, {merge(2), 2, old, api.ErrDead}, {merge(2), 3, []int{1, 2}, api.ErrDead}, {merge(2), 4, []int{1, 2}, api.ErrDead}, {merge(2), 5, []int{1, 2}, api.OK},
		{drop(2), 0, old, api.ErrDead}, {drop(2), 1, old, api.ErrDead}, {drop(2), 2, []int{1}, api.ErrDead}, {drop(2), 3, []int{1}, api.ErrDead}, {drop(2), 4, []int{1}, api.OK},
		{drop(3), 0, old, api.ErrDead}, {drop(3), 1, nil, api.ErrDead}, {drop(3), 2, nil, api.ErrDead}, {drop(3), 3, nil, api.ErrDead}, {drop(3), 4, nil, api.OK},
	} {
		d := h.d.Clone()
		c := mustOpen(t, d)
		d.Cut(x.after, 3)
		if e := x.o.do(c); e != x.e || !slices.Equal(c.Sizes(), x.want) || d.Dead() != (e != api.OK) {
			t.Errorf("%s behind %d raw writes: %v, %v, want %v, %v", x.o.what, x.after, e, c.Sizes(), x.e, x.want)
		}
		d.Restart()
		if c := mustOpen(t, d); !slices.Equal(c.Sizes(), x.want) {
			t.Errorf("%s behind %d raw writes, opened anew: %v, want %v", x.o.what, x.after, c.Sizes(), x.want)
		}
	}
}

// P13.3: no room for one more file.
func TestAFullDisk(t *testing.T) {
	for _, layers := range []int{0, 1, 3} {
		h := line(t, 6)
		c := mustOpen(t, h.d)
		for i := range layers {
			c.Write(h.ids[i])
		}
		calls := []call{write(), write(h.ids[4]), drop(layers)}
		for n := 1; n <= layers; n++ {
			calls = append(calls, merge(n), drop(n))
		}
		for files := 29; files <= 32; files++ {
			h.fill(files)
			for _, o := range calls {
				d, e := wantDoneOn(t, h.d, -1, 0, o)
				_, st, refused := stepOn(t, h.d, o)
				puts := 0
				if st.top != "" {
					puts++
				}
				if len(st.after) > 0 {
					puts++
				}
				want := api.OK
				if files+puts > 32 {
					want = api.ErrFull
				}
				if refused != api.OK {
					want = refused
				}
				if e != want || e != api.OK && !slices.Equal(d.Names(), h.d.Names()) {
					t.Errorf("%s on a disk of %d files: %v, want %v; %v, were %v", o.what, files, e, want, d.Names(), h.d.Names())
				}
				wantFullAndDead(t, h.d, o)
			}
		}
	}
}

// wantFullAndDead has the power go off on a full disk, too.
func wantFullAndDead(t *testing.T, d *disk.Disk, o call) {
	t.Helper()
	p, st, _ := stepOn(t, d, o)
	for after := range 7 {
		for _, keep := range []int{0, 8} {
			cut, e := wantDoneOn(t, d, after, keep, o)
			if (e == api.ErrDead) != cut.Dead() {
				t.Errorf("%s: %v", o.what, e)
			}
			cut.Restart()
			c, now := wantOpened(t, cut)
			if got := chainBody(now.layers); !bytes.Equal(got, chainBody(p.layers)) && !bytes.Equal(got, chainBody(st.after)) {
				t.Errorf("%s: neither from before nor from after: %v", o.what, c.Sizes())
			}
		}
	}
	dead := d.Clone()
	kill(dead)
	c, p := wantOpened(t, dead)
	p.d = dead.Clone()
	wantDone(t, c, p, o)
}

// P13.3: ErrFull of chain.new, by hand: the layer's file goes, unless the power does ahead of it.
func TestNoRoomForTheChainFile(t *testing.T) {
	h := line(t, 3)
	c := mustOpen(t, h.d)
	c.Write(h.ids[0])
	c.Write(h.ids[1])
	h.fill(31)
	for _, o := range []call{write(), merge(2)} {
		d := h.d.Clone()
		c := mustOpen(t, d)
		for range 3 {
			n := d.Writes()
			if e := o.do(c); e != api.ErrFull || d.Writes() != n+2 || !slices.Equal(d.Names(), h.d.Names()) || !slices.Equal(c.Sizes(), []int{1, 1}) {
				t.Errorf("%s: %v, %d raw writes, %v", o.what, e, d.Writes()-n, c.Sizes())
			}
		}
		d.Cut(1, 0)
		if e := o.do(c); e != api.ErrDead || !slices.Contains(d.Names(), "layer.3") || slices.Contains(d.Names(), "chain.new") || !slices.Equal(c.Sizes(), []int{1, 1}) {
			t.Errorf("%s: %v, %v, %v", o.what, e, d.Names(), c.Sizes())
		}
		d.Restart()
		if c := mustOpen(t, d); !slices.Equal(c.Sizes(), []int{1, 1}) || !slices.Equal(d.Names(), h.d.Names()) {
			t.Errorf("%s: %v, %v", o.what, c.Sizes(), d.Names())
		}
		// With a file less it is done.
		d.Remove("f0")
		if e := o.do(mustOpen(t, d)); e != api.OK {
			t.Errorf("%s: %v", o.what, e)
		}
	}
}

// P13.3: no room for so many bytes, in Write and in Merge.
func TestALayerThatIsTooLong(t *testing.T) {
	h := newHistory(t)
	tree := h.tree()
	// A row of 30 bytes each: 8737 of them have room.
	for i := range 8738 {
		id, e := h.s.Commit(api.Commit{Tree: tree, Date: int64(i)})
		if e != api.OK {
			t.Fatal(e)
		}
		h.ids = append(h.ids, id)
	}
	c, e := Open(h.d, h.s)
	if e != api.OK {
		t.Fatal(e)
	}
	was := state(h.d)
	if e := c.Write(); e != api.ErrFull || state(h.d) != was || len(c.Sizes()) > 0 {
		t.Error(e, state(h.d), c.Sizes())
	}
	if e := c.Write(h.ids[:8737]...); e != api.OK || !slices.Equal(c.Sizes(), []int{8737}) {
		t.Error(e, c.Sizes())
	}
	if e := c.Write(); e != api.OK || !slices.Equal(c.Sizes(), []int{8737, 1}) {
		t.Error(e, c.Sizes())
	}
	was = state(h.d)
	if e := c.Merge(2); e != api.ErrFull || state(h.d) != was || !slices.Equal(c.Sizes(), []int{8737, 1}) {
		t.Error(e, state(h.d), c.Sizes())
	}
	for i, row := range c.Rows() {
		if at, ok := c.Place(row.ID); !ok || at != i {
			t.Fatal(at, ok, i)
		}
	}
	if c := mustOpen(t, h.d); !slices.Equal(c.Sizes(), []int{8737, 1}) || state(h.d) != was {
		t.Error(c.Sizes())
	}
}

// A long line is gone down without calls within calls, and without end.
func TestALongLine(t *testing.T) {
	h := newHistory(t)
	tree := h.tree("a=1")
	for i := range 6000 {
		c := api.Commit{Tree: tree}
		if i > 0 {
			c.Parents = h.of(i - 1)
		}
		id, e := h.s.Commit(c)
		if e != api.OK {
			t.Fatal(e)
		}
		h.ids = append(h.ids, id)
	}
	c, _ := Open(h.d, h.s)
	if e := c.Write(h.ids[2999]); e != api.OK {
		t.Error(e)
	}
	if e := c.Write(slices.Repeat(h.of(5999, 0, 5999), 1000)...); e != api.OK || !slices.Equal(c.Sizes(), []int{3000, 3000}) {
		t.Error(e, c.Sizes())
	}
	if e := c.Merge(2); e != api.OK || !slices.Equal(c.Sizes(), []int{6000}) {
		t.Error(e, c.Sizes())
	}
}

// Many ways from the tips down to the root: each commit is gone through once.
func TestManyWaysDown(t *testing.T) {
	h := newHistory(t)
	tree := h.tree()
	h.commit(tree, 0)
	for i := 0; i < 120; i += 2 {
		below := numbered(max(0, i-1), min(2, i+1))
		h.commit(tree, 0, below...)
		h.commit(tree, 1, below...)
	}
	wantDoneOn(t, h.d, -1, 0, write(h.ids[len(h.ids)-1]))
}

// P13.4: the power goes off at each raw write of each call, with any number of layers, and again in the opening.
func TestWhole(t *testing.T) {
	h := shapes(t)
	c := mustOpen(t, h.d)
	for _, tips := range [][]int{{0}, {2}, {8}, {4}, {6}} {
		wantWhole(t, h.d, write(h.of(tips...)...), keepsOf()...)
		wantWhole(t, h.d, write(), keepsOf()...)
		if e := c.Write(h.of(tips...)...); e != api.OK {
			t.Fatal(e)
		}
		layers := len(c.Sizes())
		for n := 1; n <= layers; n++ {
			wantWhole(t, h.d, drop(n), keepsOf()...)
			if n > 1 {
				wantWhole(t, h.d, merge(n), keepsOf()...)
			}
		}
	}
	// With a layer that was spoilt ahead of it.
	for at := range c.Sizes() {
		d := h.d.Clone()
		d.Spoil(c.Names()[at], 3, 8)
		_, p := wantOpened(t, d.Clone())
		wantWholeOpening(t, d, p.layers, keepsOf()...)
		if len(p.layers) != at {
			t.Error(at, len(p.layers))
		}
	}
}

// P13.4: cut again and again, in calls and in openings, it comes to the end.
func TestCutAgainAndAgain(t *testing.T) {
	h := line(t, 4)
	c := mustOpen(t, h.d)
	c.Write(h.ids[0])
	c.Write(h.ids[1])
	d := h.d.Clone()
	for after := 0; ; after++ {
		c, _ := wantOpened(t, d)
		d.Cut(after%4, after)
		if e := c.Merge(2); e == api.ErrRange {
			break
		}
		for range 3 {
			d.Restart()
			d.Cut(0, after)
			if c, _ := Open(d, openStore(t, d)); c != nil {
				break
			}
		}
		d.Restart()
		if after > 50 {
			t.Fatal("it does not end")
		}
	}
	d.Restart()
	c, _ = wantOpened(t, d)
	wantRowsOf(t, "merged", h, c, []int{0, 1})
}

func pick[T any](r *rand.Rand, list []T) T { return list[r.Intn(len(list))] }

// grow puts a commit above some that are there, by the store that is handed in.
func (h *history) grow(r *rand.Rand) {
	parents := r.Perm(len(h.ids))
	parents = parents[:min(len(parents), pick(r, []int{0, 1, 1, 1, 1, 2, 2, 3, 8}))]
	var list []string
	for _, p := range []string{"a", "b/c", "b/d/e", "g.h", "i_", "p", "q", "r/s", "t", "u"} {
		if r.Intn(3) > 0 {
			list = append(list, fmt.Sprintf("%s=%d", p, r.Intn(3)))
		}
	}
	h.commit(h.tree(list[:r.Intn(len(list)+1)]...), r.Int63n(1<<40+1), parents...)
}

func (h *history) randomCall(r *rand.Rand) call {
	switch r.Intn(9) {
	case 0:
		return merge(r.Intn(8))
	case 1:
		return drop(r.Intn(8))
	case 2:
		return write()
	}
	var tips []api.ID
	for range r.Intn(4) {
		tips = append(tips, pick(r, append(slices.Clone(h.ids), 5)))
	}
	return write(append(tips, pick(r, h.ids))...)
}

// spoil has something befall the files of a chain.
func (h *history) spoil(r *rand.Rand) {
	var mine []string
	for _, name := range h.d.Names() {
		if name != "objects" {
			mine = append(mine, name)
		}
	}
	if len(mine) == 0 {
		return
	}
	name := pick(r, mine)
	file, _ := h.d.Read(name)
	switch r.Intn(6) {
	case 0, 1:
		h.d.Spoil(name, r.Intn(len(file)+1), byte(r.Intn(256)))
	case 2:
		h.d.Remove(name)
	case 3:
		h.d.Trim(name, r.Intn(len(file)+1))
	case 4:
		h.d.Put(pick(r, []string{"chain", "chain.new", "layer.1", "layer.2", "layer.3", "layer.x"}), file)
	case 5:
		h.d.Rename(name, pick(r, []string{"chain", "layer.1", "layer.2", "layer.4", "layer.44"}))
	}
}

// P13.1 to P13.5: random calls, the power going off in some, files spoilt in some, against the words of the chapter.
func TestRandomCalls(t *testing.T) {
	r := rand.New(rand.NewSource(13))
	met, dead, lost := map[api.Errno]int{}, 0, 0
	for range 40 {
		h := newHistory(t)
		c, _ := wantOpened(t, h.d)
		for range 60 {
			if r.Intn(3) > 0 || len(h.ids) == 0 {
				h.grow(r)
			}
			if r.Intn(20) == 0 {
				h.file(pick(r, []string{"f0", "f1", "f2", "f3"}), nil)
			}
			// The chain that is asked is opened with its own store, so the one that puts is opened anew.
			c, _ = wantOpened(t, h.d)
			like := h.d.Clone()
			p, _ := openPlain(like, openStore(t, like))
			for range 1 + r.Intn(3) {
				if r.Intn(4) == 0 {
					after, keep := r.Intn(6), r.Intn(200)
					h.d.Cut(after, keep)
					like.Cut(after, keep)
				}
				met[wantDone(t, c, p, h.randomCall(r))]++
			}
			if h.d.Dead() {
				dead++
			}
			h.d.Restart()
			wantDoneAnew(t, h.d, p)
			if r.Intn(4) == 0 {
				h.spoil(r)
				before := len(p.layers)
				if _, p := wantOpened(t, h.d); len(p.layers) < before {
					lost++
				}
			}
			h.s = openStore(t, h.d)
			if t.Failed() {
				t.FailNow()
			}
		}
	}
	for _, e := range []api.Errno{api.OK, api.ErrRange, api.ErrMissing, api.ErrMany, api.ErrDead} {
		if met[e] < 50 {
			t.Error("met too seldom to tell much:", met)
		}
	}
	if dead < 200 || lost < 100 {
		t.Error("too little befell it:", dead, lost)
	}
}

// wantDoneAnew opens a clone of a disk: the chain is the one that was told last.
func wantDoneAnew(t *testing.T, d *disk.Disk, p *plain) {
	t.Helper()
	d = d.Clone()
	c, _ := wantOpened(t, d)
	wantLayers(t, "opened anew", d, c, p.layers)
}

// P13.1: random chain files over random layers' files.
func TestRandomChainFiles(t *testing.T) {
	r := rand.New(rand.NewSource(14))
	h := line(t, 8)
	right := h.layers([]int{0}, []int{1, 2}, nil, []int{3}, nil, []int{4, 5}, []int{6})
	count := map[int]int{}
	for range 4000 {
		d := h.d.Clone()
		n := r.Intn(len(right) + 1)
		layers := slices.Clone(right[:n])
		for i, number := range r.Perm(9)[:n] {
			layers[i].number = uint32(number)
		}
		if n > 0 && r.Intn(3) == 0 {
			layers[r.Intn(n)] = pick(r, layers)
		}
		for _, l := range layers {
			if r.Intn(20) > 0 {
				d.Put(l.file(), l.bytes)
			}
		}
		if n > 0 && r.Intn(8) == 0 {
			layers[r.Intn(n)].bytes = pick(r, right).bytes
		}
		file := chainBytes(layers)
		if r.Intn(10) == 0 {
			file[r.Intn(len(file))] ^= byte(r.Intn(256))
		}
		d.Put("chain", file)
		if r.Intn(4) == 0 {
			d.Put("chain.new", file)
		}
		if r.Intn(3) == 0 {
			d.Cut(r.Intn(8), r.Intn(30))
		}
		if _, p := wantOpened(t, d); p != nil {
			count[len(p.layers)]++
		}
		if t.Failed() {
			t.FailNow()
		}
	}
	for n := range 7 {
		if count[n] < 30 {
			t.Error("too few to tell much:", count)
		}
	}
}

// roomy lays a list into a longer one, whose spare room has a mark in each place.
func roomy[T any](list []T, spare T) []T {
	whole := slices.Repeat([]T{spare}, len(list)+8)
	copy(whole, list)
	return whole[:len(list)]
}

// whole is a list with its spare room.
func whole[T any](list []T) []T { return list[:cap(list)] }

// Rule 3: what is handed in is not changed, its spare room neither, and not kept.
func TestWhatIsHandedIn(t *testing.T) {
	h := shapes(t)
	for _, numbers := range [][]int{{}, {0}, {7}, {8, 7, 7, 0}, {4, 2}} {
		d := h.d.Clone()
		c, p := wantOpened(t, d)
		p.d = d.Clone()
		for _, more := range [][]int{{1}, numbers, {8}} {
			tips := roomy(h.of(more...), 77)
			was := slices.Clone(whole(tips))
			p.do(write(slices.Clone(tips)...))
			if e := c.Write(tips...); e != api.OK || !slices.Equal(whole(tips), was) {
				t.Errorf("Write of %v: %v, %x, was %x", more, e, whole(tips), was)
			}
			clear(whole(tips))
			wantTold(t, "Write", c, p)
		}
		tips := roomy(append(h.of(numbers...), 5), 77)
		was := slices.Clone(whole(tips))
		if e := c.Write(tips...); e != api.ErrMissing || !slices.Equal(whole(tips), was) {
			t.Error(e, whole(tips))
		}
		wantOpened(t, d)
	}
}

// The store is only read.
func TestTheStoreStays(t *testing.T) {
	h := shapes(t)
	h.s.SetRef("main", h.ids[7])
	tell := func() string {
		file, _ := h.d.Read("objects")
		return fmt.Sprint(file, h.s.Commits(), h.s.Refs(), h.s.Tags())
	}
	was := tell()
	c, _ := Open(h.d, h.s)
	c.Write(h.ids[2])
	c.Write()
	c.Merge(2)
	c.Drop(1)
	c.Write()
	h.d.Spoil("layer.1", 0, 1)
	Open(h.d, h.s)
	if tell() != was {
		t.Error("the store has changed")
	}
}

// spoilRows writes into all that rows have, and into their spare room.
func spoilRows(rows []layer.Row) {
	for i := range rows {
		for j := range whole(rows[i].Parents) {
			whole(rows[i].Parents)[j] = -66
		}
		for j := range whole(rows[i].Filter) {
			whole(rows[i].Filter)[j] = 0x66
		}
	}
	for i := range whole(rows) {
		whole(rows)[i] = layer.Row{ID: 66}
	}
}

// Rule 3: answers are new memory, each list for itself.
func TestAnswersAreNew(t *testing.T) {
	h := shapes(t)
	made, p := wantOpened(t, h.d)
	p.d = h.d.Clone()
	for _, tips := range [][]int{{2}, {4}, {8}, {7}} {
		wantDone(t, made, p, write(h.of(tips...)...))
	}
	wantDone(t, made, p, merge(2))
	for what, c := range map[string]*Chain{"made": made, "opened": mustOpen(t, h.d)} {
		sizes, names, rows := c.Sizes(), c.Names(), c.Rows()
		for i := range whole(sizes) {
			whole(sizes)[i] = 66
		}
		for i := range whole(names) {
			whole(names)[i] = "x"
		}
		spoilRows(rows)
		wantTold(t, what, c, p)
		for i := range p.stack() {
			rows := c.Rows()
			spoilRows(rows[i : i+1 : i+1])
			rows[i] = p.stack()[i]
			if !alikeRows(rows, p.stack()) {
				t.Errorf("%s: the lists of row %d share memory with others", what, i)
			}
			wantTold(t, what, c, p)
		}
	}
	// What was answered stays when the chain goes on.
	rows, sizes, names := made.Rows(), made.Sizes(), made.Names()
	was := fmt.Sprint(rows, sizes, names)
	wantDone(t, made, p, merge(2))
	wantDone(t, made, p, drop(1))
	wantDone(t, made, p, write())
	if fmt.Sprint(rows, sizes, names) != was {
		t.Error("an answer has changed")
	}
	// What is written is not spoilt by what was done to answers.
	spoilRows(made.Rows())
	wantDone(t, made, p, merge(2))
	wantOpened(t, h.d)
}

// Rule 4: chains of clones go their own ways; asking changes nothing.
func TestChainsGoTheirOwnWays(t *testing.T) {
	h := shapes(t)
	c := mustOpen(t, h.d)
	c.Write(h.ids[2])
	other := h.d.Clone()
	c2, p2 := wantOpened(t, other)
	c.Write()
	c.Merge(2)
	wantTold(t, "the other", c2, p2)
	p2.d = other.Clone()
	wantDone(t, c2, p2, write(h.ids[8]))
	wantDone(t, c2, p2, write())
	was := state(other)
	for range 3 {
		wantTold(t, "again", c2, p2)
	}
	if state(other) != was {
		t.Error("asking wrote")
	}
	wantRowsOf(t, "the first", h, c, numbered(0, 9))
}

// Rule 2: no tips may be nil or empty.
func TestEmptyOrNil(t *testing.T) {
	for _, tips := range [][]api.ID{nil, {}, make([]api.ID, 3)[:0]} {
		h := shapes(t)
		c := mustOpen(t, h.d)
		if e := c.Write(tips...); e != api.OK || !slices.Equal(c.Sizes(), []int{9}) {
			t.Error(e, c.Sizes())
		}
	}
}
