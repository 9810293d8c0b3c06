package layer

import (
	"bytes"
	"encoding/binary"
	"encoding/hex"
	"fmt"
	"hash/crc32"
	"math"
	"math/rand"
	"reflect"
	"slices"
	"strings"
	"testing"

	"forebear/api"
	"forebear/disk"
	"forebear/filter"
	"forebear/store"
)

// history is a store, and its commits in the order in which they were put.
type history struct {
	t   testing.TB
	d   *disk.Disk
	s   *store.Store
	ids []api.ID
}

func newHistory(t testing.TB) *history {
	t.Helper()
	d := disk.New()
	s, e := store.Open(d)
	if e != api.OK {
		t.Fatal(e)
	}
	return &history{t: t, d: d, s: s}
}

// tree puts files, each told as its path, = and its text, in any order.
func (h *history) tree(list ...string) api.ID {
	h.t.Helper()
	var entries []api.Entry
	for _, file := range list {
		p, text, _ := strings.Cut(file, "=")
		blob, e := h.s.Blob([]byte(text))
		if e != api.OK {
			h.t.Fatal(e)
		}
		entries = append(entries, api.Entry{Path: p, Blob: blob})
	}
	slices.SortFunc(entries, func(a, b api.Entry) int { return strings.Compare(a.Path, b.Path) })
	id, e := h.s.Tree(entries...)
	if e != api.OK {
		h.t.Fatal(e, list)
	}
	return id
}

// commit puts one above those of these numbers; its note makes it unlike the others.
func (h *history) commit(tree api.ID, date int64, parents ...int) api.ID {
	h.t.Helper()
	c := api.Commit{Tree: tree, Date: date, Note: fmt.Sprintf("c%d", len(h.ids))}
	for _, p := range parents {
		c.Parents = append(c.Parents, h.ids[p])
	}
	id, e := h.s.Commit(c)
	if e != api.OK {
		h.t.Fatal(e)
	}
	h.ids = append(h.ids, id)
	return id
}

// of is the IDs of the commits of these numbers.
func (h *history) of(numbers ...int) []api.ID {
	var ids []api.ID
	for _, n := range numbers {
		ids = append(ids, h.ids[n])
	}
	return ids
}

// rows is a layer of the commits of these numbers, which has no error.
func (h *history) rows(below []Row, numbers ...int) []Row {
	h.t.Helper()
	rows, e := Rows(h.s, below, h.of(numbers...)...)
	if e != api.OK {
		h.t.Fatal(e, numbers)
	}
	return rows
}

// stack is layers, each of the commits of these numbers, one behind the other.
func (h *history) stack(layers ...[]int) []Row {
	h.t.Helper()
	var rows []Row
	for _, numbers := range layers {
		rows = append(rows, h.rows(slices.Clone(rows), numbers...)...)
	}
	return rows
}

// small is the history whose layers were reckoned elsewhere.
func small(t testing.TB) *history {
	h := newHistory(t)
	h.commit(h.tree("a=1", "d/b=2"), 5)
	h.commit(h.tree("a=1", "d/b=3"), 0, 0)
	h.commit(h.tree("a=1", "d/b=2"), 1<<40, 0)
	h.commit(h.tree("d/b=3", "d/e/f=x"), 7, 2, 1)
	h.commit(h.tree(), 7, 3)
	h.commit(h.tree(manyFiles(9)...), 8, 4, 0)
	h.commit(h.tree(manyFiles(1)...), 9, 5)
	return h
}

func manyFiles(n int) []string {
	var list []string
	for i := range n {
		list = append(list, fmt.Sprintf("f%d=x", i))
	}
	return list
}

// Layers of the small history, and what is below and among them.
var smallLayers = []struct {
	below   [][]int
	numbers []int
	digits  string
}{
	{nil, nil, "46424c310000000000000000976347ee"},
	{nil, []int{0, 1}, "46424c3100000000000000021df19009e2f0ef3b049198c3921191e00000000000000000010000000102000401080491a6e4048fdf469b9b761014fa5411f40a0000000000000005000100060100510c90810808e019"},
	{[][]int{{0, 1}}, []int{2, 3}, "46424c31000000020000000235e083321c5c01bf7d7e9e3df7ac7f6d00000000000000070200000003000000000300090100701080158800439d42947f90f9596a761014fa5411f40a0000010000000000010000000102000201008ec27550"},
	{[][]int{{0, 1}, {2, 3}}, []int{6, 5, 4}, "46424c3100000004000000031700e91341e4ff8dcf3bb7fbf9e97d650000000000000008020000000500000001050001022810167c95e2fb51af63bf4c8601bb4500000000000000070100000002040007010000113814c263aa4f52a58636f1f00de059cce63b050000000000000009010000000406000d011822110a026815441204020027bcebbb"},
	{nil, []int{0, 1, 2, 3, 4, 5, 6}, "46424c3100000000000000071700e91341e4ff8dcf3bb7fbf9e97d650000000000000008020000000200000006050001021df19009e2f0ef3b049198c3921191e000000000000000000100000006020004010804912810167c95e2fb51af63bf4c8601bb4500000000000000070100000003040007010000113814c235e083321c5c01bf7d7e9e3df7ac7f6d000000000000000702000000050000000103000901007010801588004363aa4f52a58636f1f00de059cce63b050000000000000009010000000006000d011822110a02681544120402009d42947f90f9596a761014fa5411f40a000001000000000001000000060200020100a6e4048fdf469b9b761014fa5411f40a0000000000000005000100060100510c9081ab2b29c3"},
}

func unhex(t testing.TB, digits string) []byte {
	t.Helper()
	b, err := hex.DecodeString(digits)
	if err != nil {
		t.Fatal(err)
	}
	return b
}

// depth is how many commits the longest line down to a root has, told by the commits alone.
func depth(s *store.Store, id api.ID, known map[api.ID]int) int {
	if known[id] == 0 {
		c, _ := s.Get(id)
		known[id] = 1
		for _, p := range c.Parents {
			known[id] = max(known[id], 1+depth(s, p, known))
		}
	}
	return known[id]
}

func plainFiles(s *store.Store, tree api.ID) map[string]api.ID {
	entries, _ := s.Files(tree)
	all := map[string]api.ID{}
	for _, x := range entries {
		all[x.Path] = x.Blob
	}
	return all
}

// plainChanged is the paths by which a commit and its first parent differ, as they come.
func plainChanged(s *store.Store, c api.Commit) []string {
	was, now := map[string]api.ID{}, plainFiles(s, c.Tree)
	if len(c.Parents) > 0 {
		first, _ := s.Get(c.Parents[0])
		was = plainFiles(s, first.Tree)
	}
	var changed []string
	for p, blob := range now {
		if was[p] != blob {
			changed = append(changed, p)
		}
	}
	for p := range was {
		if now[p] == 0 {
			changed = append(changed, p)
		}
	}
	return changed
}

// plainError is what Rows refuses, by the order of the promise.
func plainError(s *store.Store, below []Row, ids []api.ID) api.Errno {
	var under []api.ID
	for _, row := range below {
		under = append(under, row.ID)
	}
	for i, id := range ids {
		if slices.Contains(ids[:i], id) || slices.Contains(under, id) {
			return api.ErrTwice
		}
	}
	all := s.Commits()
	for _, id := range ids {
		if !slices.Contains(all, id) {
			return api.ErrMissing
		}
	}
	for _, id := range ids {
		c, _ := s.Get(id)
		for _, p := range c.Parents {
			if !slices.Contains(ids, p) && !slices.Contains(under, p) {
				return api.ErrOpen
			}
		}
	}
	return api.OK
}

// plainRows is the rows by the words of the chapter.
func plainRows(s *store.Store, below []Row, ids []api.ID) ([]Row, api.Errno) {
	if e := plainError(s, below, ids); e != api.OK {
		return nil, e
	}
	var stack []api.ID
	for _, row := range below {
		stack = append(stack, row.ID)
	}
	var mine []api.ID
	for _, id := range s.Commits() {
		if slices.Contains(ids, id) {
			mine = append(mine, id)
		}
	}
	stack = append(stack, mine...)
	known := map[api.ID]int{}
	var rows []Row
	for _, id := range mine {
		c, _ := s.Get(id)
		row := Row{ID: id, Tree: c.Tree, Date: c.Date, Generation: min(depth(s, id, known), 250), Filter: filter.Make(plainChanged(s, c)...)}
		for _, p := range c.Parents {
			row.Parents = append(row.Parents, slices.Index(stack, p))
		}
		rows = append(rows, row)
	}
	return rows, api.OK
}

// summed lays the check sum behind what it is of.
func summed(body []byte) []byte {
	return binary.BigEndian.AppendUint32(slices.Clone(body), crc32.ChecksumIEEE(body))
}

func plainBody(below int, rows []Row) []byte {
	b := []byte{0x46, 0x42, 0x4c, 0x31}
	b = binary.BigEndian.AppendUint32(b, uint32(below))
	b = binary.BigEndian.AppendUint32(b, uint32(len(rows)))
	for _, row := range rows {
		b = binary.BigEndian.AppendUint64(b, uint64(row.ID))
		b = binary.BigEndian.AppendUint64(b, uint64(row.Tree))
		b = binary.BigEndian.AppendUint64(b, uint64(row.Date))
		b = append(b, byte(len(row.Parents)))
		for _, p := range row.Parents {
			b = binary.BigEndian.AppendUint32(b, uint32(p))
		}
		b = append(b, byte(row.Generation))
		b = binary.BigEndian.AppendUint16(b, uint16(len(row.Filter)))
		b = append(b, row.Filter...)
	}
	return b
}

func plainEncode(below int, rows []Row) []byte { return summed(plainBody(below, rows)) }

func plainDecode(b []byte) (int, []Row, api.Errno) {
	if len(b) < 16 {
		return 0, nil, api.ErrForm
	}
	body := b[:len(b)-4]
	if binary.BigEndian.Uint32(b[len(body):]) != crc32.ChecksumIEEE(body) {
		return 0, nil, api.ErrSum
	}
	if string(body[:4]) != "FBL1" {
		return 0, nil, api.ErrForm
	}
	var rows []Row
	at := 12
	for range binary.BigEndian.Uint32(body[8:]) {
		if at+25 > len(body) {
			return 0, nil, api.ErrForm
		}
		row := Row{ID: api.ID(binary.BigEndian.Uint64(body[at:])), Tree: api.ID(binary.BigEndian.Uint64(body[at+8:])), Date: int64(binary.BigEndian.Uint64(body[at+16:]))}
		behind := at + 25 + 4*int(body[at+24])
		if behind+3 > len(body) {
			return 0, nil, api.ErrForm
		}
		for p := at + 25; p < behind; p += 4 {
			row.Parents = append(row.Parents, int(binary.BigEndian.Uint32(body[p:])))
		}
		row.Generation = int(body[behind])
		at = behind + 3 + int(binary.BigEndian.Uint16(body[behind+1:]))
		if at > len(body) {
			return 0, nil, api.ErrForm
		}
		row.Filter = body[behind+3 : at]
		rows = append(rows, row)
	}
	if at != len(body) {
		return 0, nil, api.ErrForm
	}
	return int(binary.BigEndian.Uint32(body[4:])), rows, api.OK
}

// plainVerify encodes what is right: what is taken is just these bytes.
func plainVerify(s *store.Store, below []Row, b []byte) ([]Row, api.Errno) {
	_, rows, e := plainDecode(b)
	if e != api.OK {
		return nil, e
	}
	var ids []api.ID
	for _, row := range rows {
		ids = append(ids, row.ID)
	}
	right, e := plainRows(s, below, ids)
	if e != api.OK || !bytes.Equal(b, plainEncode(len(below), right)) {
		return nil, api.ErrVerify
	}
	return rows, api.OK
}

// alike takes an empty list for a nil one.
func alike(a, b []Row) bool { return slices.EqualFunc(a, b, alikeRow) }

func alikeRow(a, b Row) bool {
	return slices.Equal(a.Parents, b.Parents) && bytes.Equal(a.Filter, b.Filter) && reflect.DeepEqual(bare(a), bare(b))
}

func bare(row Row) Row {
	row.Parents, row.Filter = nil, nil
	return row
}

// short tells a long thing in few signs.
func short(x any) string {
	s := fmt.Sprintf("%+v", x)
	if len(s) > 600 {
		return fmt.Sprintf("%s .. (%d signs)", s[:600], len(s))
	}
	return s
}

func wantRows(t *testing.T, s *store.Store, below []Row, ids []api.ID, want []Row, wantE api.Errno) {
	t.Helper()
	rows, e := Rows(s, below, ids...)
	if e != wantE || !alike(rows, want) {
		t.Errorf("Rows of %x above %d: %s, %v, want %s, %v", ids, len(below), short(rows), e, short(want), wantE)
	}
}

// wantPlainRows holds Rows against the plain one.
func wantPlainRows(t *testing.T, s *store.Store, below []Row, ids []api.ID) {
	t.Helper()
	want, e := plainRows(s, below, ids)
	wantRows(t, s, below, ids, want, e)
}

func wantDecoded(t *testing.T, b []byte, below int, rows []Row, wantE api.Errno) {
	t.Helper()
	n, l, e := Decode(b)
	if e != wantE || n != below || !alike(l, rows) {
		t.Errorf("Decode of %s: %d, %s, %v, want %d, %s, %v", short(b), n, short(l), e, below, short(rows), wantE)
	}
}

// wantUndecoded asks Verify, too, which has Decode's error.
func wantUndecoded(t *testing.T, b []byte, wantE api.Errno) {
	t.Helper()
	wantDecoded(t, b, 0, nil, wantE)
	s := newHistory(t).s
	if l, e := Verify(s, nil, b); e != wantE || len(l) != 0 {
		t.Errorf("Verify of %s: %s, %v, want %v", short(b), short(l), e, wantE)
	}
}

// wantPlainDecoded holds Decode against the plain one, and tells the error.
func wantPlainDecoded(t *testing.T, b []byte) api.Errno {
	t.Helper()
	below, rows, e := plainDecode(b)
	wantDecoded(t, b, below, rows, e)
	return e
}

func wantVerified(t *testing.T, s *store.Store, below []Row, b []byte, want []Row, wantE api.Errno) {
	t.Helper()
	rows, e := Verify(s, below, b)
	if e != wantE || !alike(rows, want) {
		t.Errorf("Verify above %d of %s: %s, %v, want %s, %v", len(below), short(b), short(rows), e, short(want), wantE)
	}
}

// wantWay holds a way there and back against the plain one.
func wantWay(t *testing.T, below int, rows ...Row) {
	t.Helper()
	b := Encode(below, rows...)
	if want := plainEncode(below, rows); !bytes.Equal(b, want) {
		t.Errorf("Encode of %s above %d: %s, want %s", short(rows), below, short(b), short(want))
	}
	wantDecoded(t, b, below, rows, api.OK)
}

func TestExamples(t *testing.T) {
	h := newHistory(t)
	r := h.commit(h.tree("a=1"), 1)
	c := h.commit(h.tree("a=2"), 2, 0)
	rows, e := Rows(h.s, nil, c, r)
	if e != api.OK || len(rows) != 2 {
		t.Fatal(rows, e)
	}
	root := slices.IndexFunc(rows, func(row Row) bool { return row.ID == r })
	if rows[root].Generation != 1 || rows[1-root].Generation != 2 || !slices.Equal(rows[1-root].Parents, []int{root}) || len(rows[root].Parents) != 0 {
		t.Errorf("%+v", rows)
	}
	wantUndecoded(t, nil, api.ErrForm)
	wantRows(t, h.s, nil, []api.ID{c}, nil, api.ErrOpen)
}

// P12.1 to P12.3: reckoned elsewhere.
func TestKnownLayers(t *testing.T) {
	h := small(t)
	for _, l := range smallLayers {
		below, want := h.stack(l.below...), unhex(t, l.digits)
		rows := h.rows(below, l.numbers...)
		if b := Encode(len(below), rows...); !bytes.Equal(b, want) {
			t.Errorf("the layer of %v above %v: %x, want %x", l.numbers, l.below, b, want)
		}
		wantDecoded(t, want, len(below), rows, api.OK)
		wantVerified(t, h.s, below, want, rows, api.OK)
		wantPlainRows(t, h.s, below, h.of(l.numbers...))
	}
}

// permutations is all orders of a list.
func permutations[T any](list []T) [][]T {
	if len(list) == 0 {
		return [][]T{nil}
	}
	var all [][]T
	for i := range list {
		rest := slices.Concat(list[:i], list[i+1:])
		for _, p := range permutations(rest) {
			all = append(all, append([]T{list[i]}, p...))
		}
	}
	return all
}

// P12.1: whatever the order of the IDs, the rows stand by rising ID.
func TestRowsOfAnyOrder(t *testing.T) {
	h := small(t)
	want, _ := plainRows(h.s, nil, h.of(0, 1, 2, 3, 4))
	for _, numbers := range permutations([]int{0, 1, 2, 3, 4}) {
		wantRows(t, h.s, nil, h.of(numbers...), want, api.OK)
	}
	if !slices.IsSortedFunc(want, func(a, b Row) int { return compareIDs(a.ID, b.ID) }) {
		t.Error("the plain rows don't rise")
	}
	below := h.stack([]int{1, 0})
	want, _ = plainRows(h.s, below, h.of(2, 3, 4, 5))
	for _, numbers := range permutations([]int{2, 3, 4, 5}) {
		wantRows(t, h.s, below, h.of(numbers...), want, api.OK)
	}
}

func compareIDs(a, b api.ID) int {
	if a < b {
		return -1
	}
	return 1
}

// P12.1: of none, of one; above nothing and above a stack.
func TestRowsOfFew(t *testing.T) {
	h := small(t)
	wantRows(t, h.s, nil, nil, nil, api.OK)
	wantRows(t, newHistory(t).s, nil, nil, nil, api.OK)
	wantRows(t, h.s, h.stack([]int{0}, []int{1, 2}), nil, nil, api.OK)
	root, _ := h.s.Get(h.ids[0])
	wantRows(t, h.s, nil, h.of(0), []Row{{ID: h.ids[0], Tree: root.Tree, Date: 5, Generation: 1, Filter: filter.Make("a", "d/b")}}, api.OK)
	c, _ := h.s.Get(h.ids[1])
	wantRows(t, h.s, h.stack([]int{0}), h.of(1), []Row{{ID: h.ids[1], Tree: c.Tree, Date: 0, Parents: []int{0}, Generation: 2, Filter: filter.Make("d/b")}}, api.OK)
	// One row a layer: the positions are those of the order in which the layers stand.
	var below []Row
	for n, id := range h.ids {
		wantPlainRows(t, h.s, below, []api.ID{id})
		below = append(below, h.rows(below, n)...)
	}
	if !slices.Equal(below[5].Parents, []int{4, 0}) || !slices.Equal(below[3].Parents, []int{2, 1}) {
		t.Errorf("%+v", below)
	}
	// A root above a stack has no parents there.
	more := h.commit(h.tree("a=1"), 77)
	wantRows(t, h.s, below, []api.ID{more}, []Row{{ID: more, Tree: h.tree("a=1"), Date: 77, Generation: 1, Filter: filter.Make("a")}}, api.OK)
}

// P12.1: parents below, among the IDs, and both; in the order in which the commit names them.
func TestParents(t *testing.T) {
	h := newHistory(t)
	for range 8 {
		h.commit(h.tree("a=1"), 0)
	}
	orders := [][]int{{0, 1, 2, 3, 4, 5, 6, 7}, {7, 6, 5, 4, 3, 2, 1, 0}, {3, 0, 7, 1}, {5}, {2, 6}}
	for _, parents := range orders {
		h.commit(h.tree("a=2"), 1, parents...)
	}
	for low := range 9 {
		under, among := []int{}, []int{}
		for n := range h.ids {
			if n < low {
				under = append(under, n)
			} else {
				among = append(among, n)
			}
		}
		below := h.stack(under)
		rows := h.rows(below, among...)
		wantPlainRows(t, h.s, below, h.of(among...))
		stack := slices.Concat(below, rows)
		for i, parents := range orders {
			row := stack[slices.IndexFunc(stack, func(row Row) bool { return row.ID == h.ids[8+i] })]
			var told []api.ID
			for _, at := range row.Parents {
				told = append(told, stack[at].ID)
			}
			if !slices.Equal(told, h.of(parents...)) || row.Generation != 2 {
				t.Errorf("with %d below: %+v, want the parents %v", low, row, parents)
			}
		}
	}
}

// P12.1: each error, and two and three of them at once, wherever they stand.
func TestRowsRefused(t *testing.T) {
	h := small(t)
	below := h.stack([]int{0}, []int{1})
	blob, e := h.s.Blob([]byte("x"))
	if e != api.OK {
		t.Fatal(e)
	}
	tree := h.tree("a=1", "d/b=2")
	twice, under, open := h.ids[2], h.ids[1], h.ids[5]
	for _, r := range []struct {
		ids  []api.ID
		want api.Errno
	}{
		{[]api.ID{twice, twice}, api.ErrTwice},
		{[]api.ID{twice, h.ids[3], twice}, api.ErrTwice},
		{[]api.ID{under}, api.ErrTwice},
		{[]api.ID{under, twice}, api.ErrTwice},
		{[]api.ID{h.ids[0], h.ids[1]}, api.ErrTwice},
		{[]api.ID{under, under}, api.ErrTwice},
		{[]api.ID{blob}, api.ErrMissing},
		{[]api.ID{tree}, api.ErrMissing},
		{[]api.ID{0}, api.ErrMissing},
		{[]api.ID{5}, api.ErrMissing},
		{[]api.ID{math.MaxUint64}, api.ErrMissing},
		{[]api.ID{twice ^ 1}, api.ErrMissing},
		{[]api.ID{twice, 5}, api.ErrMissing},
		{[]api.ID{open}, api.ErrOpen},
		{[]api.ID{h.ids[3]}, api.ErrOpen},
		{[]api.ID{h.ids[2], h.ids[4]}, api.ErrOpen},
		{[]api.ID{h.ids[2], h.ids[3], h.ids[6]}, api.ErrOpen},
		{[]api.ID{5, 5}, api.ErrTwice},
		{[]api.ID{0, 0}, api.ErrTwice},
		{[]api.ID{blob, blob}, api.ErrTwice},
		{[]api.ID{open, open}, api.ErrTwice},
		{[]api.ID{5, twice, twice}, api.ErrTwice},
		{[]api.ID{under, 5}, api.ErrTwice},
		{[]api.ID{under, math.MaxUint64}, api.ErrTwice},
		{[]api.ID{open, under}, api.ErrTwice},
		{[]api.ID{open, twice, twice}, api.ErrTwice},
		{[]api.ID{open, 5}, api.ErrMissing},
		{[]api.ID{open, math.MaxUint64}, api.ErrMissing},
		{[]api.ID{open, tree, twice}, api.ErrMissing},
		{[]api.ID{open, 5, under}, api.ErrTwice},
		{[]api.ID{open, 5, twice, twice}, api.ErrTwice},
		{[]api.ID{open, math.MaxUint64, twice, twice}, api.ErrTwice},
	} {
		for _, ids := range permutations(r.ids) {
			wantRows(t, h.s, below, ids, nil, r.want)
		}
		if e := plainError(h.s, below, r.ids); e != r.want {
			t.Errorf("the plain one of %x: %v, want %v", r.ids, e, r.want)
		}
	}
	// Without the stack what was below is open; a store without commits has none.
	wantRows(t, h.s, nil, []api.ID{under}, nil, api.ErrOpen)
	wantRows(t, h.s, nil, h.of(2), nil, api.ErrOpen)
	wantRows(t, newHistory(t).s, nil, h.of(0), nil, api.ErrMissing)
	// The second parent alone is open, and the first alone.
	wantRows(t, h.s, h.stack([]int{0}), h.of(2, 3), nil, api.ErrOpen)
	wantRows(t, h.s, h.stack([]int{0, 1}), h.of(3), nil, api.ErrOpen)
	// A parent of a parent may be anywhere, but it has a row below or among them then.
	wantRows(t, h.s, h.stack([]int{0, 1}), h.of(3, 4), nil, api.ErrOpen)
}

// line puts n commits one above the other, and tells their numbers.
func (h *history) line(n int) []int {
	tree := h.tree("a=1")
	var numbers []int
	for i := range n {
		parents := []int{len(h.ids) - 1}
		if i == 0 {
			parents = nil
		}
		numbers = append(numbers, len(h.ids))
		h.commit(tree, int64(i), parents...)
	}
	return numbers
}

func wantLine(t *testing.T, h *history, numbers []int, rows []Row) {
	t.Helper()
	for i, n := range numbers {
		at := slices.IndexFunc(rows, func(row Row) bool { return row.ID == h.ids[n] })
		if at < 0 || rows[at].Generation != min(i+1, 250) {
			t.Fatalf("the commit %d of a line: %+v", i, rows[max(at, 0)])
		}
	}
}

// P12.1: generations, up to MaxIndexed and beyond, in one layer and in several.
func TestGenerations(t *testing.T) {
	h := newHistory(t)
	numbers := h.line(600)
	wantLine(t, h, numbers, h.rows(nil, numbers...))
	back := slices.Clone(numbers)
	slices.Reverse(back)
	wantLine(t, h, numbers, h.rows(nil, back...))
	wantPlainRows(t, h.s, nil, h.of(numbers...))
	for _, cut := range []int{1, 2, 100, 248, 249, 250, 251, 252, 400, 599} {
		wantLine(t, h, numbers, h.stack(numbers[:cut], numbers[cut:]))
	}
	wantLine(t, h, numbers, h.stack(numbers[:249], numbers[249:250], numbers[250:251], numbers[251:252], numbers[252:]))
	// The greatest of the parents tells, wherever it stands; of two alike ones one more.
	tree := h.tree("a=2")
	for _, r := range []struct {
		parents []int
		want    int
	}{{[]int{0, 9}, 11}, {[]int{9, 0}, 11}, {[]int{3, 40, 7}, 42}, {[]int{247, 0}, 249}, {[]int{0, 248}, 250}, {[]int{249, 0}, 250}, {[]int{1, 250}, 250},
		{[]int{599, 0}, 250}, {[]int{0, 599}, 250}, {[]int{0, 1, 2, 3, 4, 5, 6, 7}, 9}, {[]int{0}, 2}, {nil, 1}} {
		n := len(h.ids)
		h.commit(tree, 5, r.parents...)
		below := h.stack(numbers)
		for _, rows := range [][]Row{h.rows(below, n), h.rows(nil, append(slices.Clone(numbers), n)...)} {
			at := slices.IndexFunc(rows, func(row Row) bool { return row.ID == h.ids[n] })
			if rows[at].Generation != r.want {
				t.Errorf("above the commits %v of a line: generation %d, want %d", r.parents, rows[at].Generation, r.want)
			}
		}
	}
}

// P12.1: many ways down to the same commits.
func TestGenerationsOfDiamonds(t *testing.T) {
	h := newHistory(t)
	tree := h.tree("a=1")
	h.commit(tree, 0)
	numbers := []int{0}
	for i := range 200 {
		top := len(h.ids) - 1
		h.commit(tree, int64(i), top)
		h.commit(tree, int64(i), top)
		h.commit(tree, int64(i), top+1, top+2)
		numbers = append(numbers, top+1, top+2, top+3)
	}
	wantPlainRows(t, h.s, nil, h.of(numbers...))
	// Each commit has the eight ahead of it as parents.
	wide := newHistory(t)
	tree = wide.tree()
	var all []int
	for n := range 300 {
		var parents []int
		for p := max(0, n-8); p < n; p++ {
			parents = append(parents, p)
		}
		wide.commit(tree, 0, parents...)
		all = append(all, n)
	}
	wantPlainRows(t, wide.s, nil, wide.of(all...))
}

// P12.1: the filter is of what the commit and its first parent differ by.
func TestFilters(t *testing.T) {
	h := newHistory(t)
	base := append(manyFiles(20), "d/a=1", "d/e/b=2")
	changed := func(n int) []string {
		list := slices.Clone(base)
		for i := range n {
			list[i] = strings.Replace(list[i], "=x", "=y", 1)
		}
		return list
	}
	names := func(n int) []string {
		var list []string
		for i := range n {
			list = append(list, fmt.Sprintf("f%d", i))
		}
		return list
	}
	h.commit(h.tree(base...), 0)
	h.commit(h.tree(), 0)
	h.commit(h.tree("z/y=1"), 0)
	for _, r := range []struct {
		files   []string
		parents []int
		paths   []string
	}{
		{base, []int{0}, nil},
		{nil, nil, nil},
		{nil, []int{1}, nil},
		{[]string{"z/y=1"}, []int{1}, []string{"z/y"}},
		{nil, []int{2}, []string{"z/y"}},
		{[]string{"z/x=1"}, []int{2}, []string{"z/x", "z/y"}},
		{[]string{"z=1"}, []int{2}, []string{"z", "z/y"}},
		{changed(1), []int{0}, names(1)},
		{changed(7), []int{0}, names(7)},
		{changed(8), []int{0}, names(8)},
		{changed(9), []int{0}, names(9)},
		{changed(20), []int{0}, names(20)},
		{manyFiles(8), nil, names(8)},
		{manyFiles(9), nil, names(9)},
		{manyFiles(8), []int{1}, names(8)},
		{manyFiles(9), []int{1}, names(9)},
		{manyFiles(20), []int{0}, []string{"d/a", "d/e/b"}},
		{base, []int{0, 1, 2}, nil},
		{[]string{"z/y=1"}, []int{2, 0, 1}, nil},
		{[]string{"z/y=1"}, []int{1, 2}, []string{"z/y"}},
	} {
		n := len(h.ids)
		h.commit(h.tree(r.files...), 0, r.parents...)
		rows := h.rows(h.stack([]int{0, 1, 2}), n)
		if want := filter.Make(r.paths...); !bytes.Equal(rows[0].Filter, want) {
			t.Errorf("files %v above %v: %x, want %x", r.files, r.parents, rows[0].Filter, want)
		}
	}
	// Such as the chapter of filters says.
	for _, r := range []struct {
		files []string
		want  []byte
	}{{base, []byte{1, 0}}, {changed(9), []byte{2}}} {
		n := len(h.ids)
		h.commit(h.tree(r.files...), 1, 0)
		if rows := h.rows(h.stack([]int{0}), n); !bytes.Equal(rows[0].Filter, r.want) {
			t.Errorf("%x, want %x", rows[0].Filter, r.want)
		}
	}
}

// P12.1: Date and Tree are the commit's.
func TestDatesAndTrees(t *testing.T) {
	h := newHistory(t)
	dates := []int64{0, 1, 255, 256, 1<<32 - 1, 1 << 32, 1<<40 - 1, 1 << 40}
	for i, date := range dates {
		tree := h.tree(fmt.Sprintf("a=%d", i))
		id := h.commit(tree, date)
		rows := h.rows(nil, i)
		if rows[0].ID != id || rows[0].Tree != tree || rows[0].Date != date {
			t.Errorf("%+v, want %x, %x, %d", rows[0], id, tree, date)
		}
		wantVerified(t, h.s, nil, Encode(0, rows...), rows, api.OK)
	}
}

func numbered(from, n int) []int {
	list := make([]int, n)
	for i := range list {
		list[i] = from + i
	}
	return list
}

// P12.2: the least, the greatest, and what is between.
func TestEncode(t *testing.T) {
	head := func(digits string) []byte { return summed(unhex(t, digits)) }
	for _, r := range []struct {
		below int
		rows  []Row
		want  []byte
	}{
		{0, nil, unhex(t, "46424c310000000000000000976347ee")},
		{7, nil, head("46424c310000000700000000")},
		{0x01020304, nil, head("46424c310102030400000000")},
		{math.MaxUint32, nil, head("46424c31ffffffff00000000")},
		{0, []Row{{}}, head("46424c310000000000000001" + strings.Repeat("00", 28))},
		{1, []Row{{}, {}}, head("46424c310000000100000002" + strings.Repeat("00", 56))},
		{0, []Row{{ID: 0x0102030405060708, Tree: 0x1112131415161718, Date: 0x2122232425262728, Parents: []int{0x31323334}, Generation: 0x41, Filter: []byte{0x51, 0x52}}},
			head("46424c310000000000000001" + "0102030405060708" + "1112131415161718" + "2122232425262728" + "0131323334" + "41" + "00025152")},
		{0, []Row{{Date: -1, Parents: []int{0, math.MaxUint32}, Generation: 255}},
			head("46424c310000000000000001" + strings.Repeat("00", 16) + "ffffffffffffffff" + "0200000000ffffffff" + "ff" + "0000")},
		{0, []Row{{Date: math.MinInt64}}, head("46424c310000000000000001" + strings.Repeat("00", 16) + "8000000000000000" + "00000000")},
		{0, []Row{{Date: math.MaxInt64}}, head("46424c310000000000000001" + strings.Repeat("00", 16) + "7fffffffffffffff" + "00000000")},
		{0, []Row{{Date: -256}}, head("46424c310000000000000001" + strings.Repeat("00", 16) + "ffffffffffffff00" + "00000000")},
	} {
		if b := Encode(r.below, r.rows...); !bytes.Equal(b, r.want) {
			t.Errorf("Encode of %+v above %d: %x, want %x", r.rows, r.below, b, r.want)
		}
		wantWay(t, r.below, r.rows...)
	}
	greatest := Row{ID: math.MaxUint64, Tree: math.MaxUint64, Date: math.MaxInt64, Generation: 255,
		Parents: slices.Repeat([]int{math.MaxUint32}, 255), Filter: bytes.Repeat([]byte{255}, 65535)}
	wantWay(t, math.MaxUint32, greatest)
	wantWay(t, math.MaxUint32, greatest, greatest, Row{}, greatest)
	for _, n := range []int{1, 2, 127, 128, 254, 255, 256, 257, 32767, 32768, 65534, 65535} {
		wantWay(t, n, Row{ID: api.ID(n), Filter: bytes.Repeat([]byte{byte(n)}, n)}, Row{ID: 1})
		wantWay(t, n, Row{Tree: api.ID(n), Parents: numbered(n, min(n, 255))}, Row{ID: 1})
		wantWay(t, 1<<16*n, slices.Repeat([]Row{{Parents: []int{n}, Date: -int64(n)}}, n)...)
	}
	// What isn't a row of any commit is told as well: it is Verify that holds it against the objects.
	wantWay(t, 3, Row{ID: 9}, Row{ID: 9}, Row{ID: 2, Parents: []int{1, 1, 4000000000}, Generation: 251, Filter: []byte{7}})
}

// P12.2: too few bytes, whatever they are.
func TestDecodeOfFewBytes(t *testing.T) {
	whole := Encode(0)
	if len(whole) != 16 {
		t.Fatalf("%d bytes without rows", len(whole))
	}
	for n := range 16 {
		wantUndecoded(t, whole[:n], api.ErrForm)
		wantUndecoded(t, make([]byte, n), api.ErrForm)
		wantUndecoded(t, bytes.Repeat([]byte{255}, n), api.ErrForm)
		if n >= 4 {
			wantUndecoded(t, summed(whole[:n-4]), api.ErrForm)
		}
	}
	wantUndecoded(t, make([]byte, 16), api.ErrSum)
	wantUndecoded(t, summed(make([]byte, 12)), api.ErrForm)
	wantDecoded(t, whole, 0, nil, api.OK)
	wantDecoded(t, Encode(5), 5, nil, api.OK)
}

// P12.2: the check sum is of all the others, and asked ahead of the form.
func TestDecodeOfAWrongSum(t *testing.T) {
	h := small(t)
	for _, l := range smallLayers {
		whole := unhex(t, l.digits)
		for at := range whole {
			for bit := range 8 {
				b := slices.Clone(whole)
				b[at] ^= 1 << bit
				wantUndecoded(t, b, api.ErrSum)
			}
		}
	}
	b := Encode(0, h.rows(nil, 0)...)
	for _, wrong := range [][]byte{
		append([]byte("FBL2"), b[4:]...),
		append(slices.Clone(b), 0),
		append([]byte{0}, b...),
		b[:len(b)-1],
		b[:16],
		append(slices.Clone(b), b...),
		bytes.Repeat([]byte{255}, 100),
	} {
		wantUndecoded(t, wrong, api.ErrSum)
	}
	// With the lowest byte first it is another one.
	turned := slices.Clone(b)
	slices.Reverse(turned[len(turned)-4:])
	wantUndecoded(t, turned, api.ErrSum)
}

// P12.2: other first bytes.
func TestDecodeOfAnotherMark(t *testing.T) {
	h := small(t)
	body := plainBody(0, h.rows(nil, 0, 1))
	for at := range 4 {
		for x := range 256 {
			b := slices.Clone(body)
			b[at] = byte(x)
			want := api.ErrForm
			if b[at] == body[at] {
				want = api.OK
			}
			if e := wantPlainDecoded(t, summed(b)); e != want {
				t.Errorf("first bytes %x: %v, want %v", b[:4], e, want)
			}
		}
	}
	for _, other := range []string{"fbl1", "1LBF", "FBL2", "FBL\x01", "\x00\x00\x00\x00"} {
		wantUndecoded(t, summed(append([]byte(other), body[4:]...)), api.ErrForm)
		wantUndecoded(t, summed(append([]byte(other), body[4:12]...)), api.ErrForm)
	}
}

// P12.2: bytes that end too soon, or go on.
func TestDecodeOfCutBytes(t *testing.T) {
	rows := []Row{{ID: 1}, {ID: 2, Parents: []int{5, 6, 7}, Generation: 3, Filter: []byte{1, 2, 3, 4, 5}}, {ID: 3, Filter: []byte{2}}, {ID: 4, Parents: []int{9}}}
	for n := range len(rows) + 1 {
		body := plainBody(4, rows[:n])
		for cut := range len(body) {
			wantUndecoded(t, summed(body[:cut]), api.ErrForm)
		}
		for _, more := range [][]byte{{0}, {1}, {255}, make([]byte, 3), make([]byte, 4), make([]byte, 27), make([]byte, 28), make([]byte, 29), bytes.Repeat([]byte{255}, 70000), body, summed(body)} {
			wantUndecoded(t, summed(slices.Concat(body, more)), api.ErrForm)
		}
		wantDecoded(t, summed(body), 4, rows[:n], api.OK)
		// A row more or fewer is told than there is.
		for _, told := range []uint32{0, 1, 2, 3, 4, 5, 6, 1 << 8, 1 << 16, 1 << 31, math.MaxUint32 - 1, math.MaxUint32} {
			b := slices.Clone(body)
			binary.BigEndian.PutUint32(b[8:], told)
			if e := wantPlainDecoded(t, summed(b)); (e == api.OK) != (told == uint32(n)) {
				t.Errorf("%d rows told of %d: %v", told, n, e)
			}
		}
	}
	// Bytes are cut out of the midst, or laid in there.
	body := plainBody(4, rows)
	for at := range len(body) + 1 {
		for n := 1; at+n <= len(body) && n < 40; n++ {
			wantPlainDecoded(t, summed(slices.Concat(body[:at], body[at+n:])))
		}
		for _, x := range []byte{0, 1, 2, 255} {
			wantPlainDecoded(t, summed(slices.Insert(slices.Clone(body), at, x)))
		}
	}
}

// P12.2: two of the errors at once: the one that is named first.
func TestOrderOfErrors(t *testing.T) {
	short15 := append([]byte("XXXX"), make([]byte, 11)...)
	wantUndecoded(t, short15, api.ErrForm)
	wantUndecoded(t, append(short15, 9), api.ErrSum)
	wantUndecoded(t, summed(append([]byte("XXXX"), make([]byte, 8)...)), api.ErrForm)
	wantUndecoded(t, summed([]byte("FBL1\x00\x00\x00\x00\x00\x00\x00")), api.ErrForm)
	wantUndecoded(t, append([]byte("FBL1\x00\x00\x00\x00\x00\x00\x00\x05"), 1, 2, 3, 4), api.ErrSum)
	wantUndecoded(t, summed([]byte("FBL1\x00\x00\x00\x00\x00\x00\x00\x05")), api.ErrForm)
	// Verify has Decode's error first, then its own.
	h := small(t)
	b := Encode(9, Row{ID: 5})
	wantVerified(t, h.s, nil, b, nil, api.ErrVerify)
	wantVerified(t, h.s, nil, b[:15], nil, api.ErrForm)
	wantVerified(t, h.s, nil, b[:len(b)-1], nil, api.ErrSum)
	wantVerified(t, h.s, nil, summed(b), nil, api.ErrForm)
}

// P12.3: what Rows made is taken, layer upon layer; above anything else it is not.
func TestVerify(t *testing.T) {
	h := small(t)
	layers := [][]int{{0, 1}, {2}, {3, 4}, {5}, {6}}
	for top := range len(layers) {
		below := h.stack(layers[:top]...)
		rows := h.rows(below, layers[top]...)
		b := Encode(len(below), rows...)
		wantVerified(t, h.s, below, b, rows, api.OK)
		for under := range len(layers) {
			if under != top {
				wantVerified(t, h.s, h.stack(layers[:under]...), b, nil, api.ErrVerify)
			}
		}
		for _, told := range []int{0, 1, 2, 3, 4, 5, 6, 7, 8, 1 << 16, math.MaxUint32} {
			if told != len(below) {
				wantVerified(t, h.s, below, Encode(told, rows...), nil, api.ErrVerify)
			}
		}
	}
	whole := h.stack(layers...)
	wantVerified(t, h.s, nil, Encode(0), nil, api.OK)
	wantVerified(t, h.s, whole, Encode(len(whole)), nil, api.OK)
	wantVerified(t, h.s, whole, Encode(0), nil, api.ErrVerify)
	wantVerified(t, h.s, nil, Encode(7), nil, api.ErrVerify)
	// As many below, but other ones: the positions of the parents are others there.
	one, other := h.stack([]int{0}, []int{1}, []int{2}), h.stack([]int{0}, []int{2}, []int{1})
	b := Encode(3, h.rows(one, 3)...)
	wantVerified(t, h.s, one, b, h.rows(one, 3), api.OK)
	wantVerified(t, h.s, other, b, nil, api.ErrVerify)
	// All in one layer that is no order of layers.
	wantVerified(t, h.s, nil, Encode(0, whole...), nil, api.ErrVerify)
}

// P12.3: rows in another order, told twice, left away.
func TestVerifyOfOtherRows(t *testing.T) {
	h := small(t)
	below := h.stack([]int{0, 1})
	rows := h.rows(below, 2, 3, 4, 5)
	taken := 0
	for _, order := range permutations([]int{0, 1, 2, 3}) {
		var l []Row
		for _, i := range order {
			l = append(l, rows[i])
		}
		if slices.IsSorted(order) {
			taken++
			wantVerified(t, h.s, below, Encode(2, l...), rows, api.OK)
		} else {
			wantVerified(t, h.s, below, Encode(2, l...), nil, api.ErrVerify)
		}
	}
	if taken != 1 {
		t.Errorf("%d orders are taken", taken)
	}
	for i := range rows {
		wantVerified(t, h.s, below, Encode(2, slices.Insert(slices.Clone(rows), i, rows[i])...), nil, api.ErrVerify)
		wantVerified(t, h.s, below, Encode(2, append(slices.Clone(rows), rows[i])...), nil, api.ErrVerify)
		wantVerified(t, h.s, below, Encode(2, slices.Concat(below, rows[i:])...), nil, api.ErrVerify)
		l := slices.Delete(slices.Clone(rows), i, i+1)
		want, e := plainVerify(h.s, below, Encode(2, l...))
		wantVerified(t, h.s, below, Encode(2, l...), want, e)
	}
	wantVerified(t, h.s, below, Encode(2, slices.Repeat(rows, 2)...), nil, api.ErrVerify)
	wantVerified(t, h.s, below, Encode(2, below...), nil, api.ErrVerify)
	wantVerified(t, h.s, below, Encode(2, append(slices.Clone(below), rows...)...), nil, api.ErrVerify)
	wantVerified(t, h.s, below, Encode(2, append(slices.Clone(rows), Row{ID: 5})...), nil, api.ErrVerify)
	wantVerified(t, h.s, below, Encode(2, append([]Row{{}}, rows...)...), nil, api.ErrVerify)
	// Rows that are alike but for their IDs.
	same := newHistory(t)
	same.commit(same.tree("a=1"), 1)
	same.commit(same.tree("a=1"), 1)
	rows = same.rows(nil, 0, 1)
	wantVerified(t, same.s, nil, Encode(0, rows...), rows, api.OK)
	wantVerified(t, same.s, nil, Encode(0, rows[1], rows[0]), nil, api.ErrVerify)
}

// lies is all rows that differ from one in one field.
func lies(row Row, other api.ID) []Row {
	var l []Row
	with := func(change func(r *Row)) {
		r := row
		r.Parents, r.Filter = slices.Clone(row.Parents), slices.Clone(row.Filter)
		change(&r)
		if !alikeRow(r, row) {
			l = append(l, r)
		}
	}
	for _, id := range []api.ID{0, 1, other, row.Tree, row.ID + 1, row.ID - 1, row.ID ^ 1<<63} {
		with(func(r *Row) { r.ID = id })
	}
	for _, id := range []api.ID{0, 1, other, row.ID, row.Tree + 1, row.Tree ^ 1<<63} {
		with(func(r *Row) { r.Tree = id })
	}
	for _, date := range []int64{0, -1, row.Date + 1, row.Date - 1, -row.Date, row.Date ^ math.MinInt64, row.Date + 1<<32, math.MaxInt64, math.MinInt64} {
		with(func(r *Row) { r.Date = date })
	}
	for _, g := range []int{0, 1, 2, row.Generation + 1, row.Generation - 1, 249, 250, 251, 255} {
		with(func(r *Row) { r.Generation = g })
	}
	with(func(r *Row) { r.Parents = nil })
	with(func(r *Row) { r.Parents = append(r.Parents, 0) })
	with(func(r *Row) { r.Parents = append([]int{1}, r.Parents...) })
	with(func(r *Row) { r.Parents = append(r.Parents, r.Parents...) })
	with(func(r *Row) { slices.Reverse(r.Parents) })
	for i := range row.Parents {
		with(func(r *Row) { r.Parents = slices.Delete(r.Parents, i, i+1) })
		for _, at := range []int{0, 1, 2, row.Parents[i] + 1, row.Parents[i] ^ 1, 99, math.MaxUint32} {
			with(func(r *Row) { r.Parents[i] = at })
		}
	}
	for _, f := range [][]byte{nil, {0}, {1}, {2}, {1, 0}, {1, 255}, {1, 0, 0}, {2, 0}, append(slices.Clone(row.Filter), 0), row.Filter[:len(row.Filter)-1], row.Filter[1:]} {
		with(func(r *Row) { r.Filter = slices.Clone(f) })
	}
	for i := range row.Filter {
		for bit := range 8 {
			with(func(r *Row) { r.Filter[i] ^= 1 << bit })
		}
	}
	return l
}

// P12.3: any one field of one row says something else.
func TestVerifyOfLies(t *testing.T) {
	h := small(t)
	told := 0
	for _, layers := range [][][]int{{{0, 1, 2, 3, 4, 5, 6}}, {{0, 1}, {2, 3, 4, 5, 6}}, {{0, 1, 2}, {3}}, {{0}, {1, 2}}} {
		last := len(layers) - 1
		below := h.stack(layers[:last]...)
		rows := h.rows(below, layers[last]...)
		wantVerified(t, h.s, below, Encode(len(below), rows...), rows, api.OK)
		for i, row := range rows {
			for _, lie := range lies(row, h.ids[0]) {
				l := slices.Clone(rows)
				l[i] = lie
				b := Encode(len(below), l...)
				wantDecoded(t, b, len(below), l, api.OK)
				if r, e := Verify(h.s, below, b); e != api.ErrVerify || len(r) != 0 {
					t.Errorf("%+v in the place of %+v: %s, %v", lie, row, short(r), e)
				}
				told++
			}
		}
	}
	if told < 1000 {
		t.Errorf("%d lies", told)
	}
}

// P12.3: any bit of a layer is turned, and the check sum put right.
func TestVerifyOfTurnedBits(t *testing.T) {
	h := small(t)
	for _, l := range smallLayers {
		below, whole := h.stack(l.below...), unhex(t, l.digits)
		body := whole[:len(whole)-4]
		for at := range body {
			for bit := range 8 {
				b := slices.Clone(body)
				b[at] ^= 1 << bit
				_, want := plainVerify(h.s, below, summed(b))
				if want == api.OK {
					t.Errorf("the plain one takes the bit %d of the byte %d turned", bit, at)
				}
				wantVerified(t, h.s, below, summed(b), nil, want)
			}
		}
	}
}

// P12.3: a store that lacks a commit, or has others.
func TestVerifyOfAnotherStore(t *testing.T) {
	h, less := small(t), newHistory(t)
	rows := h.rows(nil, 0, 1, 2)
	b := Encode(0, rows...)
	wantVerified(t, less.s, nil, b, nil, api.ErrVerify)
	less.commit(less.tree("a=1", "d/b=2"), 5)
	less.commit(less.tree("a=1", "d/b=3"), 0, 0)
	wantVerified(t, less.s, nil, b, nil, api.ErrVerify)
	low := h.rows(nil, 0, 1)
	wantVerified(t, less.s, nil, Encode(0, low...), low, api.OK)
	wantVerified(t, less.s, low, Encode(2, h.rows(low, 2)...), nil, api.ErrVerify)
	less.commit(less.tree("a=1", "d/b=2"), 1<<40, 0)
	wantVerified(t, less.s, nil, b, rows, api.OK)
	// A parent is in no layer.
	for _, n := range []int{1, 2} {
		alone := slices.DeleteFunc(slices.Clone(rows), func(row Row) bool { return row.ID != h.ids[n] })
		wantVerified(t, h.s, nil, Encode(0, alone...), nil, api.ErrVerify)
	}
	// Commits that come behind it change nothing of a layer.
	h.commit(h.tree("q=1"), 3, 0, 1)
	wantVerified(t, h.s, nil, b, rows, api.OK)
}

func pick[T any](r *rand.Rand, list []T) T { return list[r.Intn(len(list))] }

func randomFiles(r *rand.Rand) []string {
	var list []string
	for _, p := range []string{"a", "b/c", "b/d/e", "b/d/f", "g.h", "i_", "j/k/l/m/n/o", "p", "q", "r/s", "t", "u"} {
		if r.Intn(3) > 0 {
			list = append(list, fmt.Sprintf("%s=%d", p, r.Intn(3)))
		}
	}
	return list[:r.Intn(len(list)+1)]
}

// randomHistory has roots, merges of up to eight, commits that change nothing, little and much.
func randomHistory(t testing.TB, r *rand.Rand, n int) *history {
	h := newHistory(t)
	for i := range n {
		parents := r.Perm(i)
		parents = parents[:min(len(parents), pick(r, []int{0, 1, 1, 1, 1, 2, 2, 3, 8}))]
		files := randomFiles(r)
		tree := h.tree(files...)
		if len(parents) > 0 && r.Intn(3) == 0 {
			c, _ := h.s.Get(h.ids[parents[0]])
			tree = c.Tree
		}
		h.commit(tree, r.Int63n(1<<40+1), parents...)
	}
	return h
}

// randomLayers parts the commits into layers, each closed above those below it.
func randomLayers(r *rand.Rand, h *history) [][]int {
	layers := make([][]int, 1+r.Intn(4))
	level := make([]int, len(h.ids))
	for n, id := range h.ids {
		level[n] = r.Intn(len(layers))
		c, _ := h.s.Get(id)
		for _, p := range c.Parents {
			level[n] = max(level[n], level[slices.Index(h.ids, p)])
		}
		layers[level[n]] = append(layers[level[n]], n)
	}
	for _, numbers := range layers {
		r.Shuffle(len(numbers), func(i, j int) { numbers[i], numbers[j] = numbers[j], numbers[i] })
	}
	return layers
}

// P12.1 to P12.3, held against the plain ones.
func TestRandomHistories(t *testing.T) {
	r := rand.New(rand.NewSource(1))
	for range 150 {
		h := randomHistory(t, r, 1+r.Intn(40))
		var below []Row
		for _, numbers := range randomLayers(r, h) {
			want, e := plainRows(h.s, below, h.of(numbers...))
			if e != api.OK {
				t.Fatal("a layer that isn't closed", e)
			}
			wantRows(t, h.s, below, h.of(numbers...), want, api.OK)
			wantWay(t, len(below), want...)
			wantVerified(t, h.s, below, plainEncode(len(below), want), want, api.OK)
			below = append(below, want...)
		}
		if t.Failed() {
			return
		}
	}
}

// P12.1: any IDs above a beginning of the layers.
func TestRandomErrors(t *testing.T) {
	r := rand.New(rand.NewSource(2))
	met := map[api.Errno]int{}
	for range 200 {
		h := randomHistory(t, r, 1+r.Intn(12))
		layers := randomLayers(r, h)
		below := h.stack(layers[:r.Intn(len(layers)+1)]...)
		blob, _ := h.s.Blob([]byte("0"))
		for range 30 {
			var ids []api.ID
			for _, n := range r.Perm(len(h.ids))[:r.Intn(len(h.ids)+1)] {
				c := h.ids[n]
				if r.Intn(4) > 0 && slices.ContainsFunc(below, func(row Row) bool { return row.ID == c }) {
					continue
				}
				ids = append(ids, c)
			}
			if r.Intn(4) == 0 {
				ids = append(ids, pick(r, []api.ID{0, 1, blob, h.tree(), h.ids[0] + 1, api.ID(r.Uint64())}))
			}
			if r.Intn(8) == 0 && len(ids) > 0 {
				ids = slices.Insert(ids, r.Intn(len(ids)+1), pick(r, ids))
			}
			met[plainError(h.s, below, ids)]++
			wantPlainRows(t, h.s, below, ids)
		}
		if t.Failed() {
			return
		}
	}
	for _, e := range []api.Errno{api.OK, api.ErrTwice, api.ErrMissing, api.ErrOpen} {
		if met[e] < 100 {
			t.Errorf("%v: met too seldom: %d times", e, met[e])
		}
	}
}

func randomRow(r *rand.Rand) Row {
	row := Row{ID: api.ID(r.Uint64()), Tree: api.ID(r.Uint64()), Date: int64(r.Uint64()), Generation: r.Intn(256)}
	for range pick(r, []int{0, 1, 2, 8, r.Intn(256)}) {
		row.Parents = append(row.Parents, int(r.Uint32()))
	}
	row.Filter = make([]byte, pick(r, []int{0, 1, 2, 7, r.Intn(300)}))
	r.Read(row.Filter)
	return row
}

func randomRows(r *rand.Rand) []Row {
	var rows []Row
	for range r.Intn(6) {
		rows = append(rows, randomRow(r))
	}
	return rows
}

// P12.2: what is decoded is what was encoded, of any numbers that have room.
func TestRandomRows(t *testing.T) {
	r := rand.New(rand.NewSource(3))
	for range 3000 {
		wantWay(t, int(r.Uint32()), randomRows(r)...)
		if t.Failed() {
			return
		}
	}
}

// mangled is bytes that were a layer's, with the check sum put right.
func mangled(r *rand.Rand, b []byte) []byte {
	body := slices.Clone(b[:len(b)-4])
	for range 1 + r.Intn(3) {
		at := r.Intn(len(body))
		switch r.Intn(4) {
		case 0:
			body[at] = byte(r.Intn(256))
		case 1:
			body[at] += byte(r.Intn(3)) - 1
		case 2:
			body = slices.Insert(body, at, byte(r.Intn(3)))
		case 3:
			body = slices.Delete(body, at, at+1)
		}
	}
	return summed(body)
}

// P12.2, rule 5: any bytes, those too that have a right check sum, or are nearly a layer's.
func TestRandomBytes(t *testing.T) {
	r := rand.New(rand.NewSource(4))
	met := map[api.Errno]int{}
	for range 20000 {
		b := make([]byte, r.Intn(200))
		r.Read(b)
		met[wantPlainDecoded(t, b)]++
		wantPlainDecoded(t, summed(b))
		wantPlainDecoded(t, summed(append([]byte("FBL1\x00\x00\x00\x00\x00\x00\x00"), b...)))
		met[wantPlainDecoded(t, mangled(r, Encode(r.Intn(5), randomRows(r)...)))]++
		if t.Failed() {
			return
		}
	}
	for _, e := range []api.Errno{api.OK, api.ErrForm, api.ErrSum} {
		if met[e] < 500 {
			t.Errorf("%v: met too seldom: %d times", e, met[e])
		}
	}
}

// P12.3: layers that are nearly right.
func TestRandomLayers(t *testing.T) {
	r := rand.New(rand.NewSource(5))
	met := map[api.Errno]int{}
	for range 60 {
		h := randomHistory(t, r, 1+r.Intn(15))
		layers := randomLayers(r, h)
		top := r.Intn(len(layers))
		below := h.stack(layers[:top]...)
		rows := h.rows(below, layers[top]...)
		for range 100 {
			l := slices.Clone(rows)
			switch r.Intn(4) {
			case 0:
				r.Shuffle(len(l), func(i, j int) { l[i], l[j] = l[j], l[i] })
			case 1:
				l = l[:r.Intn(len(l)+1)]
			case 2:
				l = slices.Insert(l, r.Intn(len(l)+1), randomRow(r))
			}
			b := Encode(len(below), l...)
			if r.Intn(2) == 0 {
				b = mangled(r, b)
			}
			want, e := plainVerify(h.s, below, b)
			wantVerified(t, h.s, below, b, want, e)
			met[e]++
		}
		if t.Failed() {
			return
		}
	}
	for _, e := range []api.Errno{api.OK, api.ErrForm, api.ErrVerify} {
		if met[e] < 200 {
			t.Errorf("%v: met too seldom: %d times", e, met[e])
		}
	}
}

// Rule 5: numbers that have no room, and stacks that no call answered, end.
func TestAnythingEnds(t *testing.T) {
	far := []int{math.MinInt, math.MinInt + 1, -1 << 40, -2, -1, 0, 1, 249, 250, 251, 256, 1 << 32, 1 << 40, math.MaxInt - 1, math.MaxInt}
	for _, n := range far {
		row := Row{Parents: []int{n}, Generation: n}
		for _, b := range [][]byte{Encode(n), Encode(n, row), Encode(0, row, row), Encode(n, Row{Parents: make([]int, 256+n&1023), Filter: make([]byte, 65536+n&1023)})} {
			wantPlainDecoded(t, b)
		}
	}
	h := small(t)
	for _, n := range far {
		// Whatever a stack says of its generations, parents and filters, those of the rows are told.
		wrong := []Row{{ID: h.ids[0], Generation: n, Parents: []int{n, 0, 7}}, {ID: h.ids[0], Generation: n}, {Generation: n}}
		for _, below := range [][]Row{wrong, slices.Repeat(wrong, 100), wrong[1:], wrong[2:]} {
			for _, numbers := range [][]int{nil, {1}, {1, 2}, {1, 2, 3, 4, 5, 6}, {6}, {0}} {
				rows, e := Rows(h.s, below, h.of(numbers...)...)
				if e != plainError(h.s, below, h.of(numbers...)) {
					t.Errorf("%v above %+v: %v", numbers, below, e)
				}
				for _, row := range rows {
					if row.Generation < 1 || row.Generation > 250 {
						t.Errorf("a generation of %d above %d", row.Generation, n)
					}
				}
				if _, e := Verify(h.s, below, Encode(len(below), rows...)); e != api.OK {
					t.Errorf("Verify above %+v: %v", below, e)
				}
			}
		}
	}
	// Many IDs, alike and unlike.
	ids := make([]api.ID, 200000)
	wantRows(t, h.s, nil, ids, nil, api.ErrTwice)
	for i := range ids {
		ids[i] = api.ID(len(ids) - i)
	}
	wantRows(t, h.s, nil, ids, nil, api.ErrMissing)
	wantRows(t, h.s, nil, append(ids, h.ids...), nil, api.ErrMissing)
}

// roomy lays a list into a longer one, whose spare room has a mark in each place.
func roomy[T any](list []T, spare T) []T {
	whole := slices.Repeat([]T{spare}, len(list)+8)
	copy(whole, list)
	return whole[:len(list)]
}

// roomyRows lays rows and each list of them into a longer one.
func roomyRows(rows []Row) []Row {
	l := roomy(rows, Row{ID: 77, Date: 77})
	for i := range l {
		l[i].Parents, l[i].Filter = roomy(l[i].Parents, -77), roomy(l[i].Filter, 0x77)
	}
	return l
}

func deepCopy(rows []Row) []Row {
	l := slices.Clone(rows)
	for i := range l {
		l[i].Parents, l[i].Filter = slices.Clone(l[i].Parents), slices.Clone(l[i].Filter)
	}
	return l
}

// whole is a list with its spare room.
func whole[T any](list []T) []T { return list[:cap(list)] }

// wholeRows tells all that rows have, each list with its spare room.
func wholeRows(rows []Row) string {
	var b strings.Builder
	for _, row := range whole(rows) {
		fmt.Fprint(&b, bare(row), whole(row.Parents), whole(row.Filter))
	}
	return b.String()
}

// Rule 3: what is handed in is not changed, its spare room neither; a store is only read.
func TestArgumentsStay(t *testing.T) {
	r := rand.New(rand.NewSource(6))
	for range 100 {
		h := randomHistory(t, r, 1+r.Intn(15))
		layers := randomLayers(r, h)
		top := r.Intn(len(layers))
		below := roomyRows(h.stack(layers[:top]...))
		ids := roomy(h.of(layers[top]...), 77)
		// Of other lists, so that no call has been handed these ahead of what is told of them.
		rows := roomyRows(h.rows(deepCopy(below), layers[top]...))
		b := roomy(Encode(len(below), rows...), 0x77)
		wrong := roomy(mangled(r, b), 0x77)
		tell := func() string {
			file, _ := h.d.Read(store.File)
			return fmt.Sprint(wholeRows(below), whole(ids), wholeRows(rows), whole(b), whole(wrong), file, h.d.Writes(), h.d.Names())
		}
		was := tell()
		Rows(h.s, below, ids...)
		Rows(h.s, nil, ids...)
		Encode(len(below), rows...)
		Decode(b)
		Decode(wrong)
		Verify(h.s, below, b)
		Verify(h.s, below, wrong)
		Verify(h.s, nil, b)
		if tell() != was {
			t.Fatal("what was handed in is changed")
		}
	}
}

// spoil writes into all that rows have, and into their spare room.
func spoil(rows []Row) {
	for i := range rows {
		spoilRow(rows[i])
	}
	for i := range whole(rows) {
		whole(rows)[i] = Row{ID: 66}
	}
}

func spoilRow(row Row) {
	for i := range whole(row.Parents) {
		whole(row.Parents)[i] = -66
	}
	for i := range whole(row.Filter) {
		whole(row.Filter)[i] = 0x66
	}
}

// Rule 3: nothing is kept, and answers are new memory, each list for itself.
func TestAnswersAreNew(t *testing.T) {
	r := rand.New(rand.NewSource(7))
	for range 100 {
		h := randomHistory(t, r, 1+r.Intn(15))
		layers := randomLayers(r, h)
		top := r.Intn(len(layers))
		below, ids := h.stack(layers[:top]...), h.of(layers[top]...)
		want, _ := plainRows(h.s, below, ids)
		b := plainEncode(len(below), want)
		answers := []func() []Row{
			func() []Row { rows, _ := Rows(h.s, deepCopy(below), slices.Clone(ids)...); return rows },
			func() []Row { _, rows, _ := Decode(slices.Clone(b)); return rows },
			func() []Row { rows, _ := Verify(h.s, deepCopy(below), slices.Clone(b)); return rows },
		}
		for k, answer := range answers {
			first, second := answer(), answer()
			spoil(second)
			if !alike(first, want) || !alike(answer(), want) {
				t.Fatalf("answer %d: two answers share memory", k)
			}
			for i := range first {
				l := answer()
				spoilRow(l[i])
				l[i] = want[i]
				if !alike(l, want) {
					t.Fatalf("answer %d: the lists of a row share memory with another's", k)
				}
			}
		}
		wantNothingKept(t, h, below, ids, want)
	}
}

// wantNothingKept spoils what was handed in, and holds the answers against what they were.
func wantNothingKept(t *testing.T, h *history, below []Row, ids []api.ID, want []Row) {
	t.Helper()
	under, asked := deepCopy(below), slices.Clone(ids)
	rows, _ := Rows(h.s, under, asked...)
	spoil(under)
	clear(asked)
	if !alike(rows, want) {
		t.Fatal("Rows: an answer hangs on what was handed in")
	}
	told := deepCopy(want)
	b := Encode(len(below), told...)
	spoil(told)
	if !bytes.Equal(b, plainEncode(len(below), want)) {
		t.Fatal("Encode: an answer hangs on what was handed in")
	}
	for _, answer := range []func(b []byte) []Row{
		func(b []byte) []Row { _, rows, _ := Decode(b); return rows },
		func(b []byte) []Row { rows, _ := Verify(h.s, below, b); return rows },
	} {
		handed := slices.Clone(b)
		rows := answer(handed)
		clear(handed)
		if !alike(rows, want) {
			t.Fatal("an answer hangs on the bytes that were handed in")
		}
		handed = slices.Clone(b)
		spoil(answer(handed))
		if !bytes.Equal(handed, b) {
			t.Fatal("an answer is a piece of the bytes that were handed in")
		}
	}
	second := Encode(len(below), want...)
	clear(whole(second))
	if !bytes.Equal(Encode(len(below), want...), b) {
		t.Fatal("Encode: two answers share memory")
	}
}

// Rule 4: what was asked ahead tells nothing.
func TestAskedAgain(t *testing.T) {
	r := rand.New(rand.NewSource(8))
	h := randomHistory(t, r, 30)
	var asked []func() string
	for range 200 {
		layers := randomLayers(r, h)
		top := r.Intn(len(layers))
		below, ids := h.stack(layers[:top]...), h.of(layers[top]...)
		if r.Intn(3) == 0 {
			ids = ids[:r.Intn(len(ids)+1)]
		}
		b := mangled(r, Encode(len(below), h.rows(below, layers[top]...)...))
		asked = append(asked, func() string {
			rows, e := Rows(h.s, below, ids...)
			n, decoded, e2 := Decode(b)
			verified, e3 := Verify(h.s, below, Encode(len(below), rows...))
			return fmt.Sprint(rows, e, n, decoded, e2, verified, e3)
		})
	}
	var told []string
	for _, ask := range asked {
		told = append(told, ask())
	}
	for _, i := range r.Perm(len(asked)) {
		if s := asked[i](); s != told[i] {
			t.Fatalf("first %s, then %s", short(told[i]), short(s))
		}
	}
}

// Rule 2: an empty list may be nil or empty.
func TestEmptyOrNil(t *testing.T) {
	h := small(t)
	want, _ := plainRows(h.s, nil, h.of(0))
	for _, below := range [][]Row{nil, {}, make([]Row, 3)[:0]} {
		wantRows(t, h.s, below, h.of(0), want, api.OK)
		wantVerified(t, h.s, below, Encode(0, want...), want, api.OK)
		for _, ids := range [][]api.ID{nil, {}, h.ids[:0]} {
			wantRows(t, h.s, below, ids, nil, api.OK)
		}
		if b := Encode(0, below...); !bytes.Equal(b, plainEncode(0, nil)) {
			t.Errorf("%x", b)
		}
	}
	for _, row := range []Row{{}, {Parents: []int{}}, {Filter: []byte{}}, {Parents: []int{}, Filter: []byte{}}} {
		wantWay(t, 0, row)
	}
	for _, none := range [][]byte{nil, {}, []byte("FBL1")[:0]} {
		wantUndecoded(t, none, api.ErrForm)
	}
}
