package store

import (
	"bytes"
	"encoding/binary"
	"encoding/hex"
	"fmt"
	"hash/crc32"
	"hash/fnv"
	"math"
	"math/rand"
	"regexp"
	"slices"
	"strings"
	"testing"
	"unsafe"

	"forebear/api"
	"forebear/disk"
)

// said is a frame of a store's file.
type said struct {
	kind int
	body []byte
}

func (f said) sealed() []byte {
	b := binary.BigEndian.AppendUint32(nil, uint32(len(f.body)))
	b = append(append(b, byte(f.kind)), f.body...)
	return binary.BigEndian.AppendUint32(b, crc32.ChecksumIEEE(b))
}

func (f said) id() api.ID { return idOf(f.kind, f.body) }

func idOf(kind int, body []byte) api.ID {
	h := fnv.New64a()
	h.Write([]byte{byte(kind)})
	h.Write(body)
	return api.ID(h.Sum64())
}

// plain is a store by the words of the chapter: the frames of its file, asked from the first to the last each time.
type plain []said

func (p plain) sealed() []byte {
	var b []byte
	for _, f := range p {
		b = append(b, f.sealed()...)
	}
	return b
}

func (p plain) object(kind int, id api.ID) ([]byte, bool) {
	for _, f := range p {
		if f.kind == kind && f.id() == id {
			return f.body, true
		}
	}
	return nil, false
}

func (p plain) has(kind int, id api.ID) bool {
	_, ok := p.object(kind, id)
	return ok
}

// named is what the last frame of that kind and name says; 0, if there is none.
func (p plain) named(kind int, name string) api.ID {
	var id api.ID
	for _, f := range p {
		if f.kind == kind && string(f.body[8:]) == name {
			id = api.ID(binary.BigEndian.Uint64(f.body))
		}
	}
	return id
}

func (p plain) allNamed(kind int) []api.Named {
	all := map[string]api.ID{}
	for _, f := range p {
		if f.kind == kind {
			all[string(f.body[8:])] = p.named(kind, string(f.body[8:]))
		}
	}
	var list []api.Named
	for name, id := range all {
		if id != 0 {
			list = append(list, api.Named{Name: name, ID: id})
		}
	}
	slices.SortFunc(list, func(a, b api.Named) int { return strings.Compare(a.Name, b.Name) })
	return list
}

func (p plain) commits() []api.ID {
	var list []api.ID
	for _, f := range p {
		if f.kind == 3 {
			list = append(list, f.id())
		}
	}
	slices.Sort(list)
	return list
}

var (
	nameForm = regexp.MustCompile(`\A[a-z0-9_.]{1,16}\z`)
	pathForm = regexp.MustCompile(`\A[a-z0-9_.]{1,16}(/[a-z0-9_.]{1,16}){0,5}\z`)
)

func treeError(entries []api.Entry) api.Errno {
	if len(entries) > 64 {
		return api.ErrLong
	}
	for _, x := range entries {
		if !pathForm.MatchString(x.Path) {
			return api.ErrName
		}
	}
	for i, x := range entries {
		for j, y := range entries {
			if i < j && !(x.Path < y.Path) || strings.HasPrefix(x.Path, y.Path+"/") {
				return api.ErrTree
			}
		}
	}
	return api.OK
}

func treeBytes(entries []api.Entry) []byte {
	var b []byte
	for _, x := range entries {
		b = append(append(b, byte(len(x.Path))), x.Path...)
		b = binary.BigEndian.AppendUint64(b, uint64(x.Blob))
	}
	return b
}

func readTree(b []byte) ([]api.Entry, bool) {
	var entries []api.Entry
	for at := 0; at < len(b); {
		end := at + 1 + int(b[at])
		if end+8 > len(b) {
			return nil, false
		}
		entries = append(entries, api.Entry{Path: string(b[at+1 : end]), Blob: api.ID(binary.BigEndian.Uint64(b[end:]))})
		at = end + 8
	}
	return entries, treeError(entries) == api.OK
}

func commitError(c api.Commit) api.Errno {
	if len(c.Parents) > 8 || len(c.Note) > 64 {
		return api.ErrLong
	}
	for i, p := range c.Parents {
		if slices.Contains(c.Parents[:i], p) {
			return api.ErrTwice
		}
	}
	if c.Date < 0 || c.Date > 1<<40 {
		return api.ErrRange
	}
	return api.OK
}

func commitBytes(c api.Commit) []byte {
	b := binary.BigEndian.AppendUint64(nil, uint64(c.Tree))
	b = append(b, byte(len(c.Parents)))
	for _, p := range c.Parents {
		b = binary.BigEndian.AppendUint64(b, uint64(p))
	}
	b = binary.BigEndian.AppendUint64(b, uint64(c.Date))
	return append(append(b, byte(len(c.Note))), c.Note...)
}

func readCommit(b []byte) (api.Commit, bool) {
	if len(b) < 9 {
		return api.Commit{}, false
	}
	date := 9 + 8*int(b[8])
	if len(b) < date+9 || len(b) != date+9+int(b[date+8]) {
		return api.Commit{}, false
	}
	c := api.Commit{Tree: api.ID(binary.BigEndian.Uint64(b)), Date: int64(binary.BigEndian.Uint64(b[date:])), Note: string(b[date+9:])}
	for at := 9; at < date; at += 8 {
		c.Parents = append(c.Parents, api.ID(binary.BigEndian.Uint64(b[at:])))
	}
	return c, commitError(c) == api.OK
}

func (p plain) hasBlobs(entries []api.Entry) bool {
	return !slices.ContainsFunc(entries, func(x api.Entry) bool { return !p.has(1, x.Blob) })
}

func (p plain) hasBase(c api.Commit) bool {
	return p.has(2, c.Tree) && !slices.ContainsFunc(c.Parents, func(id api.ID) bool { return !p.has(3, id) })
}

// fits is what the chapter says of a frame behind others.
func (p plain) fits(f said) bool {
	switch f.kind {
	case 1:
		return len(f.body) <= 4096 && f.id() != 0 && !p.has(1, f.id())
	case 2:
		entries, ok := readTree(f.body)
		return ok && p.hasBlobs(entries) && f.id() != 0 && !p.has(2, f.id())
	case 3:
		c, ok := readCommit(f.body)
		return ok && p.hasBase(c) && f.id() != 0 && !p.has(3, f.id())
	case 4, 5:
		if len(f.body) < 8 || !nameForm.Match(f.body[8:]) {
			return false
		}
		id, name := api.ID(binary.BigEndian.Uint64(f.body)), string(f.body[8:])
		if f.kind == 4 && id == 0 {
			return p.named(4, name) != 0
		}
		return p.has(3, id) && (f.kind == 4 || p.named(5, name) == 0)
	}
	return false
}

// readPlain are the frames with which a file begins, as far as they are frames and fit.
func readPlain(file []byte) plain {
	var p plain
	for len(file) >= 9 {
		n := binary.BigEndian.Uint32(file)
		if n > 8192 || len(file) < int(n)+9 {
			break
		}
		end := int(n) + 5
		f := said{int(file[4]), bytes.Clone(file[5:end])}
		if binary.BigEndian.Uint32(file[end:]) != crc32.ChecksumIEEE(file[:end]) || !p.fits(f) {
			break
		}
		p = append(p, f)
		file = file[end+4:]
	}
	return p
}

func mark(kind int, name string, id api.ID) said {
	return said{kind, append(binary.BigEndian.AppendUint64(nil, uint64(id)), name...)}
}

// op is a call that writes, and what the chapter says of it: the ID, the error ahead of the disk's, and the frame that is appended, if one is.
type op struct {
	what string
	do   func(s *Store) (api.ID, api.Errno)
	want func(p plain) (api.ID, api.Errno, *said)
}

func (p plain) puts(f said) (api.ID, api.Errno, *said) {
	old, there := p.object(f.kind, f.id())
	switch {
	case there && bytes.Equal(old, f.body):
		return f.id(), api.OK, nil
	case there || f.id() == 0:
		return 0, api.ErrClash, nil
	}
	return f.id(), api.OK, &f
}

func blob(parts ...string) op {
	var list [][]byte
	for _, part := range parts {
		list = append(list, []byte(part))
	}
	all := strings.Join(parts, "")
	return op{fmt.Sprintf("Blob %.60q of %d bytes", all, len(all)), func(s *Store) (api.ID, api.Errno) { return s.Blob(list...) }, func(p plain) (api.ID, api.Errno, *said) {
		if len(all) > 4096 {
			return 0, api.ErrLong, nil
		}
		return p.puts(said{1, []byte(all)})
	}}
}

func tree(entries ...api.Entry) op {
	return op{fmt.Sprintf("Tree %.200q", fmt.Sprint(entries)), func(s *Store) (api.ID, api.Errno) { return s.Tree(entries...) }, func(p plain) (api.ID, api.Errno, *said) {
		if e := treeError(entries); e != api.OK {
			return 0, e, nil
		}
		if !p.hasBlobs(entries) {
			return 0, api.ErrMissing, nil
		}
		return p.puts(said{2, treeBytes(entries)})
	}}
}

func commit(c api.Commit) op {
	return op{fmt.Sprintf("Commit %.200q", fmt.Sprint(c)), func(s *Store) (api.ID, api.Errno) { return s.Commit(c) }, func(p plain) (api.ID, api.Errno, *said) {
		if e := commitError(c); e != api.OK {
			return 0, e, nil
		}
		if !p.hasBase(c) {
			return 0, api.ErrMissing, nil
		}
		return p.puts(said{3, commitBytes(c)})
	}}
}

func setRef(name string, id api.ID) op {
	return op{fmt.Sprintf("SetRef %.40q %x", name, id), func(s *Store) (api.ID, api.Errno) { return 0, s.SetRef(name, id) }, func(p plain) (api.ID, api.Errno, *said) {
		if !nameForm.MatchString(name) {
			return 0, api.ErrName, nil
		}
		if !p.has(3, id) {
			return 0, api.ErrMissing, nil
		}
		f := mark(4, name, id)
		return 0, api.OK, &f
	}}
}

func dropRef(name string) op {
	return op{fmt.Sprintf("DropRef %.40q", name), func(s *Store) (api.ID, api.Errno) { return 0, s.DropRef(name) }, func(p plain) (api.ID, api.Errno, *said) {
		if !nameForm.MatchString(name) {
			return 0, api.ErrName, nil
		}
		if p.named(4, name) == 0 {
			return 0, api.ErrMissing, nil
		}
		f := mark(4, name, 0)
		return 0, api.OK, &f
	}}
}

func setTag(name string, id api.ID) op {
	return op{fmt.Sprintf("SetTag %.40q %x", name, id), func(s *Store) (api.ID, api.Errno) { return 0, s.SetTag(name, id) }, func(p plain) (api.ID, api.Errno, *said) {
		if !nameForm.MatchString(name) {
			return 0, api.ErrName, nil
		}
		if !p.has(3, id) {
			return 0, api.ErrMissing, nil
		}
		if p.named(5, name) != 0 {
			return 0, api.ErrTwice, nil
		}
		f := mark(5, name, id)
		return 0, api.OK, &f
	}}
}

// wantTold asks the store for all that p says, and for some that nobody says.
func wantTold(t *testing.T, s *Store, p plain) {
	t.Helper()
	ids := []api.ID{0, 1, math.MaxUint64, idOf(1, nil), idOf(2, nil), idOf(3, nil), idOf(1, []byte("never"))}
	names := []string{"", "none", "main", "v1", "No Name", "a/b", strings.Repeat("x", 17)}
	for _, f := range p {
		if f.kind <= 3 {
			ids = append(ids, f.id(), f.id()+1, idOf(f.kind%3+1, f.body))
		} else {
			names = append(names, string(f.body[8:]), string(f.body[8:])+"x")
		}
	}
	for _, id := range ids {
		wantObjects(t, s, p, id)
	}
	for _, name := range names {
		wantNamed(t, s, p, name)
	}
	if list := s.Refs(); !slices.Equal(list, p.allNamed(4)) {
		t.Errorf("Refs: %v, want %v", list, p.allNamed(4))
	}
	if list := s.Tags(); !slices.Equal(list, p.allNamed(5)) {
		t.Errorf("Tags: %v, want %v", list, p.allNamed(5))
	}
	if list := s.Commits(); !slices.Equal(list, p.commits()) {
		t.Errorf("Commits: %x, want %x", list, p.commits())
	}
}

func wantObjects(t *testing.T, s *Store, p plain, id api.ID) {
	t.Helper()
	body, there := p.object(1, id)
	if b, ok := s.Data(id); ok != there || !bytes.Equal(b, body) {
		t.Errorf("Data of %x: %.40x, %v, want %.40x, %v", id, b, ok, body, there)
	}
	body, there = p.object(2, id)
	entries, _ := readTree(body)
	if list, ok := s.Files(id); ok != there || !slices.Equal(list, entries) {
		t.Errorf("Files of %x: %v, %v, want %v, %v", id, list, ok, entries, there)
	}
	body, there = p.object(3, id)
	want, _ := readCommit(body)
	if c, ok := s.Get(id); ok != there || c.Tree != want.Tree || !slices.Equal(c.Parents, want.Parents) || c.Date != want.Date || c.Note != want.Note {
		t.Errorf("Get of %x: %v, %v, want %v, %v", id, c, ok, want, there)
	}
}

func wantNamed(t *testing.T, s *Store, p plain, name string) {
	t.Helper()
	if id, ok := s.Ref(name); id != p.named(4, name) || ok != (id != 0) {
		t.Errorf("Ref of %q: %x, %v, want %x", name, id, ok, p.named(4, name))
	}
	if id, ok := s.Tag(name); id != p.named(5, name) || ok != (id != 0) {
		t.Errorf("Tag of %q: %x, %v, want %x", name, id, ok, p.named(5, name))
	}
}

func fileOf(d *disk.Disk) []byte {
	b, _ := d.Read("objects")
	return b
}

// diskOf is a disk whose file has these bytes.
func diskOf(t testing.TB, b []byte) *disk.Disk {
	t.Helper()
	d := disk.New()
	if e := d.Put("objects", b); e != api.OK {
		t.Fatal(e)
	}
	return d
}

func mustOpen(t *testing.T, d *disk.Disk) *Store {
	t.Helper()
	s, e := Open(d)
	if e != api.OK || s == nil {
		t.Fatalf("Open: %v, %v", s, e)
	}
	return s
}

func wantNotOpened(t *testing.T, d *disk.Disk, want api.Errno) {
	t.Helper()
	before := d.Writes()
	file := fileOf(d)
	if s, e := Open(d); e != want || s != nil {
		t.Errorf("Open: %v, %v, want none, %v", s, e, want)
	}
	if d.Writes() != before || !bytes.Equal(fileOf(d), file) {
		t.Error("an Open that failed wrote")
	}
}

// wantOpened opens the disk, holds what is told against the frames of the file that fit, and sees that just the others went, by one raw write.
func wantOpened(t *testing.T, d *disk.Disk) (*Store, plain) {
	t.Helper()
	file, writes := fileOf(d), d.Writes()
	_, there := d.Read("objects")
	p := readPlain(file)
	good := p.sealed()
	s := mustOpen(t, d)
	wantTold(t, s, p)
	if _, ok := d.Read("objects"); ok != there || !bytes.Equal(fileOf(d), good) {
		t.Errorf("of a file of %d bytes of which %d fit, %d are left (there: %v)", len(file), len(good), len(fileOf(d)), ok)
	}
	if len(good) < len(file) {
		writes++
	}
	if d.Writes() != writes {
		t.Errorf("%d raw writes in all, want %d", d.Writes(), writes)
	}
	return s, p
}

// wantDone does an op on a disk that is neither full nor cut, and tells what is there then.
func wantDone(t *testing.T, d *disk.Disk, s *Store, p plain, o op) plain {
	t.Helper()
	file, writes := fileOf(d), d.Writes()
	_, there := d.Read("objects")
	wantID, wantE, f := o.want(p)
	if id, e := o.do(s); id != wantID || e != wantE {
		t.Errorf("%s: %x, %v, want %x, %v", o.what, id, e, wantID, wantE)
	}
	if f != nil {
		p = append(slices.Clip(p), *f)
		file = append(file, f.sealed()...)
		writes, there = writes+1, true
	}
	if _, ok := d.Read("objects"); ok != there || !bytes.Equal(fileOf(d), file) || d.Writes() != writes {
		t.Errorf("%s: the file has %d bytes by %d raw writes, want %d by %d", o.what, len(fileOf(d)), d.Writes(), len(file), writes)
	}
	return p
}

// wantRefused does an op that the disk refuses: what is told stays.
func wantRefused(t *testing.T, s *Store, p plain, o op, want api.Errno) {
	t.Helper()
	if id, e := o.do(s); id != 0 || e != want {
		t.Errorf("%s: %x, %v, want 0, %v", o.what, id, e, want)
	}
	wantTold(t, s, p)
}

// do is wantDone for several, and holds what is told against p behind each of them, also when it is read anew.
func do(t *testing.T, d *disk.Disk, s *Store, p plain, ops ...op) plain {
	t.Helper()
	for _, o := range ops {
		p = wantDone(t, d, s, p, o)
		wantTold(t, s, p)
		wantTold(t, mustOpen(t, d), p)
		if t.Failed() {
			t.Fatalf("behind %s", o.what)
		}
	}
	return p
}

func files(list ...any) []api.Entry {
	var entries []api.Entry
	for i := 0; i < len(list); i += 2 {
		entries = append(entries, api.Entry{Path: list[i].(string), Blob: idOf(1, []byte(list[i+1].(string)))})
	}
	return entries
}

func treeID(entries ...api.Entry) api.ID { return idOf(2, treeBytes(entries)) }

func commitID(c api.Commit) api.ID { return idOf(3, commitBytes(c)) }

func unhex(digits string) string {
	b, err := hex.DecodeString(digits)
	if err != nil {
		panic(err)
	}
	return string(b)
}

// What most tests build upon: two blobs, two trees, three commits, two refs and two tags.
var (
	two    = files("a/b", "x", "c", "yy")
	root   = api.Commit{Tree: treeID()}
	next   = api.Commit{Tree: treeID(two...), Parents: []api.ID{commitID(root)}, Date: 7, Note: "n"}
	merge  = api.Commit{Tree: treeID(), Parents: []api.ID{commitID(next), commitID(root)}, Date: 1 << 40, Note: "merge\x00\xff"}
	sample = plain{
		{1, []byte("x")}, {2, nil}, {1, []byte("yy")}, {3, commitBytes(root)}, mark(4, "main", commitID(root)), {2, treeBytes(two)},
		{3, commitBytes(next)}, mark(5, "v1", commitID(root)), mark(4, "main", commitID(next)), {3, commitBytes(merge)},
		mark(4, "side", commitID(merge)), mark(4, "gone", commitID(root)), mark(4, "gone", 0), mark(5, "main", commitID(merge)),
	}
)

func noNames() []string {
	return []string{"", "/", "a/b", "A", "a b", "a-b", "a\x00", "a\n", "ä", "\xff", "main/", "/main", "Main", strings.Repeat("x", 17), strings.Repeat("x", 8200), strings.Repeat("x", 1<<20)}
}

// P9.1.
func TestOpenOfNothing(t *testing.T) {
	d := disk.New()
	s, p := wantOpened(t, d)
	if len(p) != 0 || len(d.Names()) != 0 {
		t.Error(p, d.Names())
	}
	wantTold(t, s, nil)
	d.Put("other", sample.sealed())
	d.Put("objects.", sample.sealed())
	s, _ = wantOpened(t, d)
	wantTold(t, s, nil)
	d.Put("objects")
	s, _ = wantOpened(t, d)
	wantTold(t, s, nil)
	if KRef != 4 || KTag != 5 || File != "objects" {
		t.Error(KRef, KTag, File)
	}
}

func TestOpenOfFramesThatFit(t *testing.T) {
	for n := range len(sample) + 1 {
		if _, p := wantOpened(t, diskOf(t, sample[:n].sealed())); len(p) != n {
			t.Fatalf("of %d frames %d fit", n, len(p))
		}
	}
}

func TestOpenOfAFileCutOffAtEachPlace(t *testing.T) {
	file := sample.sealed()
	for n := range len(file) {
		d := diskOf(t, file[:n])
		_, p := wantOpened(t, d)
		wantOpened(t, d)
		if len(p) > 0 && len(p.sealed()) > n {
			t.Fatal(n)
		}
	}
	for _, tail := range []string{"\x00", "\x00\x00\x00\x00", "\x00\x00\x00\x01", "\xff\xff\xff\xff", "\x80\x00\x00\x00\x01aaaa", strings.Repeat("\x00", 9), strings.Repeat("\x00", 5000)} {
		if _, p := wantOpened(t, diskOf(t, append(slices.Clone(file), tail...))); len(p) != len(sample) {
			t.Errorf("with %.20q behind them %d frames fit", tail, len(p))
		}
	}
}

func TestOpenWithEachByteChanged(t *testing.T) {
	file := sample.sealed()
	end, at := 0, 0
	for i, f := range sample {
		end += len(f.sealed())
		for ; at < end; at++ {
			for _, mask := range []byte{1, 2, 4, 8, 16, 32, 64, 128, 0x55, 0xff} {
				d := diskOf(t, file)
				d.Spoil("objects", at, mask)
				if _, p := wantOpened(t, d); len(p) != i {
					t.Fatalf("with byte %d xor %d there are %d frames, want %d", at, mask, len(p), i)
				}
			}
		}
	}
}

// Each byte of each body changed, and the check sum made anew: some fit all the same, and what is behind may fit no more.
func TestOpenWithEachByteOfABodyChanged(t *testing.T) {
	whole, cut := 0, 0
	for i, f := range sample {
		for at := range f.body {
			for _, mask := range []byte{1, 2, 4, 32, 128, 0xff} {
				other := slices.Clone(sample)
				other[i].body = bytes.Clone(f.body)
				other[i].body[at] ^= mask
				if _, p := wantOpened(t, diskOf(t, other.sealed())); len(p) == len(sample) {
					whole++
				} else {
					cut++
				}
			}
		}
		for kind := range 256 {
			other := slices.Clone(sample)
			other[i].kind = kind
			wantOpened(t, diskOf(t, other.sealed()))
		}
	}
	if whole < 20 || cut < 1000 {
		t.Errorf("%d whole, %d cut: too few to tell much", whole, cut)
	}
}

// badFrames are whole frames that don't fit behind the sample.
func badFrames() map[string]said {
	bad := map[string]said{
		"a blob of 4097 bytes":             {1, make([]byte, 4097)},
		"a blob of 8192 bytes":             {1, make([]byte, 8192)},
		"a blob that is there":             {1, []byte("x")},
		"a blob of the ID 0":               {1, []byte(zeroBlob)},
		"a blob like another one":          {1, []byte(twinBlob)},
		"a tree that is none":              {2, []byte("a")},
		"a tree that doesn't rise":         {2, treeBytes(files("c", "x", "a", "x"))},
		"a tree with a path under another": {2, treeBytes(files("a", "x", "a/b", "x"))},
		"a tree with no path":              {2, treeBytes(files("A", "x"))},
		"a tree of too many files":         {2, treeBytes(manyFiles(65, "x"))},
		"a tree with bytes behind it":      {2, append(treeBytes(files("a", "x")), 0)},
		"a tree without a Blob":            {2, treeBytes(files("a", "x", "b", "none"))},
		"a tree with the Blob 0":           {2, treeBytes([]api.Entry{{Path: "a"}})},
		"a tree with a tree":               {2, treeBytes([]api.Entry{{Path: "a", Blob: treeID(two...)}})},
		"a tree with a commit":             {2, treeBytes([]api.Entry{{Path: "a", Blob: commitID(root)}})},
		"a tree that is there":             {2, treeBytes(two)},
		"the tree without files":           {2, nil},
		"a commit that is none":            {3, nil},
		"a commit with a byte behind it":   {3, append(commitBytes(api.Commit{Tree: treeID(), Date: 1}), 0)},
		"a commit with a late Date":        {3, commitBytes(api.Commit{Tree: treeID(), Date: 1<<40 + 1})},
		"a commit with a Date below 0":     {3, commitBytes(api.Commit{Tree: treeID(), Date: -1})},
		"a commit with a Parent twice":     {3, commitBytes(api.Commit{Tree: treeID(), Parents: []api.ID{commitID(root), commitID(root)}})},
		"a commit without its Tree":        {3, commitBytes(api.Commit{Tree: treeID(files("z", "x")...)})},
		"a commit of the Tree 0":           {3, commitBytes(api.Commit{})},
		"a commit of a blob":               {3, commitBytes(api.Commit{Tree: idOf(1, []byte("x"))})},
		"a commit of a commit":             {3, commitBytes(api.Commit{Tree: commitID(root)})},
		"a commit without its Parent":      {3, commitBytes(api.Commit{Tree: treeID(), Parents: []api.ID{5}})},
		"a commit without one Parent":      {3, commitBytes(api.Commit{Tree: treeID(), Parents: []api.ID{commitID(root), 5, commitID(next)}})},
		"a commit without its last Parent": {3, commitBytes(api.Commit{Tree: treeID(), Parents: []api.ID{commitID(root), commitID(next), 0}})},
		"a commit upon a tree":             {3, commitBytes(api.Commit{Tree: treeID(), Parents: []api.ID{treeID()}})},
		"a commit upon a blob":             {3, commitBytes(api.Commit{Tree: treeID(), Parents: []api.ID{idOf(1, []byte("x"))}})},
		"a commit that is there":           {3, commitBytes(next)},
		"a commit of the ID 0":             {3, commitBytes(zeroCommit)},
		"a commit like another one":        {3, commitBytes(twinCommit)},
		"a ref of a missing commit":        mark(4, "main", 5),
		"a ref of a tree":                  mark(4, "main", treeID()),
		"a ref of a blob":                  mark(4, "main", idOf(1, []byte("x"))),
		"a drop of no ref":                 mark(4, "none", 0),
		"a drop of one that was":           mark(4, "gone", 0),
		"a drop of a tag":                  mark(4, "v1", 0),
		"a tag of a missing commit":        mark(5, "v2", 5),
		"a tag of the ID 0":                mark(5, "v2", 0),
		"a tag that is there, of the ID 0": mark(5, "v1", 0),
		"a tag that is a ref, of the ID 0": mark(5, "side", 0),
		"a tag of a tree":                  mark(5, "v2", treeID()),
		"a tag of a blob":                  mark(5, "v2", idOf(1, []byte("x"))),
		"a tag that is there":              mark(5, "v1", commitID(root)),
		"a tag that is there, another one": mark(5, "v1", commitID(next)),
	}
	for n := range 8 {
		bad[fmt.Sprintf("a ref of %d bytes", n)] = said{4, bytes.Repeat([]byte("a"), n)}
		bad[fmt.Sprintf("a tag of %d bytes", n)] = said{5, bytes.Repeat([]byte("a"), n)}
	}
	for i, name := range noNames() {
		if len(name) < 8000 {
			bad[fmt.Sprintf("a ref of no name %d", i)] = mark(4, name, commitID(root))
			bad[fmt.Sprintf("a drop of no name %d", i)] = mark(4, name, 0)
			bad[fmt.Sprintf("a tag of no name %d", i)] = mark(5, name, commitID(root))
		}
	}
	for kind := range 256 {
		if kind == 0 || kind > 5 {
			bad[fmt.Sprintf("kind %d", kind)] = said{kind, []byte("new")}
			bad[fmt.Sprintf("kind %d, a label", kind)] = said{kind, mark(4, "main", commitID(root)).body}
			bad[fmt.Sprintf("kind %d, no bytes", kind)] = said{kind, nil}
		}
	}
	return bad
}

func manyFiles(n int, text string) []api.Entry {
	var entries []api.Entry
	for i := range n {
		entries = append(entries, api.Entry{Path: fmt.Sprintf("d%02d/f", i), Blob: idOf(1, []byte(text))})
	}
	return entries
}

// goodFrames fit behind the sample.
func goodFrames() []said {
	return []said{
		{1, nil}, {1, []byte("z")}, {1, make([]byte, 4096)}, {1, treeBytes(two)},
		{2, treeBytes(files("a", "x"))}, {2, treeBytes(manyFiles(64, "x"))}, {2, treeBytes(files("a", "x", "b", "x"))},
		{3, commitBytes(api.Commit{Tree: treeID(), Date: 1})}, {3, commitBytes(api.Commit{Tree: treeID(two...), Parents: []api.ID{commitID(merge), commitID(root), commitID(next)}})},
		mark(4, "main", commitID(next)), mark(4, "main", commitID(root)), mark(4, "main", 0), mark(4, "gone", commitID(root)), mark(4, "v1", commitID(root)),
		mark(4, strings.Repeat("x", 16), commitID(root)), mark(5, "side", commitID(root)), mark(5, "gone", commitID(next)), mark(5, "v2", commitID(root)),
	}
}

func TestOpenOfFramesThatDoNotFit(t *testing.T) {
	for what, f := range badFrames() {
		if sample.fits(f) {
			t.Fatalf("%s: it fits", what)
		}
		for _, behind := range []plain{nil, {mark(4, "main", commitID(root)), {1, []byte("z")}}, {{1, []byte("z")}}} {
			d := diskOf(t, slices.Concat(sample, plain{f}, behind).sealed())
			if _, p := wantOpened(t, d); len(p) != len(sample) {
				t.Errorf("%s: %d frames, want %d", what, len(p), len(sample))
			}
			wantOpened(t, d)
		}
	}
	for i, f := range goodFrames() {
		for _, behind := range []plain{nil, {mark(4, "other", commitID(root)), {1, []byte("zz")}}} {
			all := slices.Concat(sample, plain{f}, behind)
			if _, p := wantOpened(t, diskOf(t, all.sealed())); len(p) != len(all) {
				t.Errorf("good frame %d: %d frames, want %d", i, len(p), len(all))
			}
		}
	}
}

// Behind what went, what is put stands where the frames that fit end.
func TestPutBehindWhatWent(t *testing.T) {
	d := diskOf(t, slices.Concat(sample, plain{mark(4, "none", 0), {1, []byte("z")}}).sealed())
	s, p := wantOpened(t, d)
	do(t, d, s, p, blob("z"), setRef("none", commitID(next)), dropRef("none"))
}

func TestOpenOfADeadDisk(t *testing.T) {
	d := diskOf(t, sample.sealed())
	kill(d)
	s, p := wantOpened(t, d)
	wantRefused(t, s, p, blob("new"), api.ErrDead)
	d = diskOf(t, append(sample.sealed(), 0))
	kill(d)
	wantNotOpened(t, d, api.ErrDead)
	d.Restart()
	wantOpened(t, d)
	d = disk.New()
	kill(d)
	d.Remove("kill")
	s, p = wantOpened(t, d)
	wantRefused(t, s, p, blob("new"), api.ErrDead)
}

// kill makes the power go off, in a write of which nothing is seen in the store.
func kill(d *disk.Disk) {
	d.Cut(0, 0)
	d.Put("kill")
}

func TestOpenWithACutThatWaits(t *testing.T) {
	d := diskOf(t, append(sample.sealed(), 0))
	d.Cut(0, 1000)
	wantNotOpened(t, d, api.ErrDead)
	if !d.Dead() {
		t.Error("the power didn't go off in the Trim")
	}
	wantNotOpened(t, d, api.ErrDead)
	d.Restart()
	d.Cut(1, 0)
	s, p := wantOpened(t, d)
	if d.Dead() {
		t.Error("the power went off")
	}
	wantRefused(t, s, p, blob("new"), api.ErrDead)
	d = diskOf(t, sample.sealed())
	d.Cut(0, 0)
	s, p = wantOpened(t, d)
	if d.Dead() {
		t.Error("an Open that had nothing to cut off wrote")
	}
	wantRefused(t, s, p, blob("new"), api.ErrDead)
}

// P9.2.
func TestBlob(t *testing.T) {
	d := disk.New()
	s := mustOpen(t, d)
	do(t, d, s, nil, blob(), blob(""), blob("", "", ""), blob("x"), blob("x"), blob("", "x"), blob("x", "y"), blob("xy"), blob("x", "", "y", ""),
		blob("\x00"), blob("\x00\x00"), blob("\xff"),
		blob(strings.Repeat("x", 4095)), blob(strings.Repeat("x", 4096)), blob(strings.Repeat("x", 4097)), blob(strings.Repeat("x", 4000), strings.Repeat("x", 96)),
		blob(strings.Repeat("y", 4000), strings.Repeat("y", 97)), blob(strings.Repeat("z", 4000), "", strings.Repeat("z", 96)), blob("", strings.Repeat("x", 4097)),
		blob(strings.Repeat("x", 4096), "", "x"), blob(strings.Repeat("x", 1<<20)), blob(slices.Repeat([]string{"ab"}, 2048)...), blob(slices.Repeat([]string{"ab"}, 2049)...),
		blob(slices.Repeat([]string{""}, 5000)...), blob(strings.Repeat("x", 4097), "y", strings.Repeat("x", 4097)))
	if n := len(readPlain(fileOf(d))); n != 10 {
		t.Errorf("the file has %d frames", n)
	}
}

func TestTree(t *testing.T) {
	d := diskOf(t, sample[:3].sealed())
	s, p := wantOpened(t, d)
	none := api.Entry{Path: "none", Blob: 5}
	do(t, d, s, p, tree(), tree(two...), tree(two...), tree(files("a", "x")...), tree(files("a", "x", "b", "x")...), tree(files("a", "yy")...),
		tree(none), tree(api.Entry{Path: "a"}), tree(api.Entry{Path: "a", Blob: treeID()}), tree(append(files("a", "x"), none)...), tree(none, files("z", "x")[0]),
		tree(files("a", "x", "b", "none", "c", "x")...), tree(files("a", "x", "b", "x", "c", "none")...),
		tree(manyFiles(64, "x")...), tree(manyFiles(65, "x")...), tree(manyFiles(64, "none")...),
		// The errors of object come ahead of what is missing.
		tree(manyFiles(65, "none")...), tree(files("A", "none")...), tree(files("", "x")...), tree(files("b", "none", "a", "none")...), tree(files("a", "none", "a/b", "x")...), tree(files("a", "x", "a", "x")...),
		tree(append(manyFiles(64, "x"), files("A", "none")...)...), tree(files("b", "x", "a", "x", "A", "x")...),
		blob("none"), tree(files("a", "x", "b", "none", "c", "x")...), tree(manyFiles(64, "none")...))
}

func TestCommit(t *testing.T) {
	d := diskOf(t, plain{{1, []byte("x")}, {2, nil}, {1, []byte("yy")}, {2, treeBytes(two)}}.sealed())
	s, p := wantOpened(t, d)
	do(t, d, s, p, commit(next), commit(root), commit(root), commit(merge), commit(next), commit(next), commit(merge),
		commit(api.Commit{}), commit(api.Commit{Tree: 5}), commit(api.Commit{Tree: idOf(1, []byte("x"))}), commit(api.Commit{Tree: commitID(root)}),
		commit(api.Commit{Tree: treeID(), Parents: []api.ID{0}}), commit(api.Commit{Tree: treeID(), Parents: []api.ID{treeID()}}), commit(api.Commit{Tree: treeID(), Parents: []api.ID{idOf(1, []byte("x"))}}),
		commit(api.Commit{Tree: treeID(), Parents: []api.ID{commitID(root), commitID(next), 5}}), commit(api.Commit{Tree: treeID(), Parents: []api.ID{5, commitID(root)}}), commit(api.Commit{Tree: treeID(), Parents: []api.ID{commitID(root), 5, commitID(next)}}),
		commit(api.Commit{Tree: 5, Parents: []api.ID{commitID(root)}}),
		commit(api.Commit{Tree: treeID(), Parents: []api.ID{commitID(root), commitID(next), commitID(merge)}, Date: 3}), commit(api.Commit{Tree: treeID(), Parents: []api.ID{commitID(merge), commitID(root)}, Date: 3}),
		commit(api.Commit{Tree: treeID(), Note: strings.Repeat("n", 64)}), commit(api.Commit{Tree: treeID(), Date: 1 << 40}),
		// The errors of object come ahead of what is missing.
		commit(api.Commit{Tree: 5, Note: strings.Repeat("n", 65)}), commit(api.Commit{Tree: treeID(), Note: strings.Repeat("n", 65)}), commit(api.Commit{Tree: 5, Parents: make([]api.ID, 9)}), commit(api.Commit{Tree: 5, Parents: []api.ID{1, 2, 3, 4, 5, 6, 7, 8, 9}}),
		commit(api.Commit{Tree: 5, Parents: []api.ID{5, 5}}), commit(api.Commit{Tree: treeID(), Parents: []api.ID{commitID(root), commitID(root)}}), commit(api.Commit{Tree: treeID(), Parents: []api.ID{commitID(root), commitID(root)}, Date: -1}),
		commit(api.Commit{Tree: 5, Date: -1}), commit(api.Commit{Tree: treeID(), Date: 1<<40 + 1}), commit(api.Commit{Tree: 5, Date: math.MaxInt64}), commit(api.Commit{Tree: treeID(), Date: math.MinInt64, Parents: []api.ID{5}}))
	if n := len(readPlain(fileOf(d))); n != 11 {
		t.Errorf("the file has %d frames", n)
	}
}

// Bytes whose IDs are 0 or those of other bytes, which a search among their bytes' sums has found.
const (
	zeroBlob     = "\x1a\x70\x0b\x09\x0d\x15\x01\x05\x1b\x03\x15\x1e\x35\x78\x0b\x1d\x3b\x3b\x0b\x05"
	twinBlob     = "\x0f\x0a\x1f\x0b\x02\x09\x16\x00\xf0\x0c\x06\x05\x02\x09\x0c\x01\x07\x0a\x01\x19" // of the blob x
	blobLikeTree = "\x01\x0d\x06\x04\x1a\x1d\x0d\x00\x39\x1f\x01\x37\x7a\x13\x14\x11\x1b\x18\x01\x39" // as of the tree without files
	blobLikeRoot = "\x1d\x79\x14\x0a\x1d\x05\x04\xfd\x19\x13\x3d\x36\x02\x08\x03\x03\x0f\x01\x3b\x05"
)

var (
	zeroCommit     = api.Commit{Tree: treeID(), Note: unhex("030736010f1c0a011f09173e160c183904360d08")}
	twinCommit     = api.Commit{Tree: treeID(), Note: unhex("0d0f0414071b090e1b3d00190506090305013d3a")} // of root
	commitLikeX    = api.Commit{Tree: treeID(), Note: unhex("0d05387405fa14050c1b190e7b020616fff43c34")} // as of the blob x
	commitLikeTree = api.Commit{Tree: treeID(), Note: unhex("1c023b030d1d07393e0cf709021a7c0705031f03")} // as of the tree without files

	zeroTree     = []string{"000b03090904040e0302060a06091402133f03f7", "010701383400090407050b0e1c1a0f0d18f60b03", "15020b051b0b07320f0d0b0718041b081f0d0538"}
	twinTree     = []string{"1a05050b1b0877120d760b0cfb1b0402010a0407", "1436060901090b0206080d0d1e78010e01037307", "1b18183839081b193c00020303010f1f0134073c"} // of the one without files
	treeLikeX    = []string{"050106070a18021b760909070104070202773d05", "1e050e090c040b061f313700080002071904000f", "1f190219030c060b0f0b020a170cf5730206037d"}
	treeLikeRoot = []string{"07030f0a0a1b16000f0a0d180f0b1e080a02107c", "0a1d0f19357a0704020d1d053a0e0d05130e1d0c", "1500001cf4020c3d1c0e0b140315180c023a0334"}
)

// three are files of three blobs that are told by their digits.
func three(digits []string) []api.Entry {
	return files("a", unhex(digits[0]), "b", unhex(digits[1]), "c", unhex(digits[2]))
}

func blobs(digits []string) []op {
	return []op{blob(unhex(digits[0])), blob(unhex(digits[1])), blob(unhex(digits[2]))}
}

func TestTheFoundBytes(t *testing.T) {
	x := idOf(1, []byte("x"))
	for i, c := range []struct{ id, want api.ID }{
		{idOf(1, []byte(zeroBlob)), 0}, {commitID(zeroCommit), 0}, {treeID(three(zeroTree)...), 0},
		{idOf(1, []byte(twinBlob)), x}, {commitID(twinCommit), commitID(root)}, {treeID(three(twinTree)...), treeID()},
		{idOf(1, []byte(blobLikeTree)), treeID()}, {idOf(1, []byte(blobLikeRoot)), commitID(root)},
		{commitID(commitLikeX), x}, {commitID(commitLikeTree), treeID()},
		{treeID(three(treeLikeX)...), x}, {treeID(three(treeLikeRoot)...), commitID(root)},
	} {
		if c.id != c.want {
			t.Errorf("%d: %x, want %x", i, c.id, c.want)
		}
	}
}

func TestClash(t *testing.T) {
	for _, first := range []bool{true, false} {
		d := disk.New()
		s := mustOpen(t, d)
		ops := slices.Concat([]op{tree(three(zeroTree)...), tree(three(twinTree)...), blob(zeroBlob), blob(zeroBlob)}, blobs(zeroTree), blobs(twinTree), []op{tree(three(zeroTree)...)})
		if first {
			ops = append(ops, blob("x"), blob(twinBlob), blob("x"), tree(), tree(three(twinTree)...), tree(), commit(zeroCommit), commit(root), commit(twinCommit), commit(root), setRef("main", commitID(root)))
		} else {
			ops = append(ops, blob(twinBlob), blob("x"), blob(twinBlob), tree(files("a", "x")...), tree(three(twinTree)...), tree(), tree(three(twinTree)...), commit(zeroCommit), commit(twinCommit), commit(root), commit(twinCommit), setRef("main", commitID(root)))
		}
		p := do(t, d, s, nil, append(ops, setRef("main", 0), setTag("main", 0), tree(api.Entry{Path: "a"}), commit(api.Commit{}), commit(api.Commit{Tree: treeID(), Parents: []api.ID{0}}))...)
		// What clashes is told ahead of what the disk says.
		kill(d)
		for _, o := range ops {
			id, e, f := o.want(p)
			if f != nil {
				id, e = 0, api.ErrDead
			}
			if got, err := o.do(s); got != id || err != e {
				t.Errorf("%s: %x, %v, want %x, %v", o.what, got, err, id, e)
			}
		}
		wantTold(t, s, p)
	}
}

func TestClashingFrames(t *testing.T) {
	var behind plain
	for _, digits := range [][]string{zeroTree, twinTree, treeLikeX} {
		for _, x := range digits {
			behind = append(behind, said{1, []byte(unhex(x))})
		}
	}
	base := slices.Concat(sample, behind)
	for _, f := range []said{{2, treeBytes(three(zeroTree))}, {2, treeBytes(three(twinTree))}, {1, []byte(zeroBlob)}, {1, []byte(twinBlob)}, {3, commitBytes(zeroCommit)}, {3, commitBytes(twinCommit)}} {
		if _, p := wantOpened(t, diskOf(t, slices.Concat(base, plain{f, {1, []byte("z")}}).sealed())); len(p) != len(base) {
			t.Errorf("%d frames, want %d", len(p), len(base))
		}
	}
	for _, f := range []said{{2, treeBytes(three(treeLikeX))}, {1, []byte(blobLikeTree)}, {1, []byte(blobLikeRoot)}, {3, commitBytes(commitLikeX)}, {3, commitBytes(commitLikeTree)}} {
		if _, p := wantOpened(t, diskOf(t, slices.Concat(base, plain{f, {1, []byte("z")}}).sealed())); len(p) != len(base)+2 {
			t.Errorf("%d frames, want %d", len(p), len(base)+2)
		}
	}
}

// One ID of several kinds is several objects.
func TestOneIDOfSeveralKinds(t *testing.T) {
	d := disk.New()
	s := mustOpen(t, d)
	rootID, x := commitID(root), idOf(1, []byte("x"))
	ops := slices.Concat(
		[]op{blob(blobLikeTree), blob(blobLikeRoot), commit(root), setRef("main", rootID), setTag("v", rootID), tree(), commit(api.Commit{Tree: treeID(), Parents: []api.ID{rootID}})},
		blobs(treeLikeX), blobs(treeLikeRoot), []op{tree(three(treeLikeRoot)...), setRef("main", rootID), setTag("v", rootID), tree(api.Entry{Path: "a", Blob: rootID}), commit(api.Commit{Tree: rootID}), tree(three(treeLikeX)...), tree(files("a", "x")...), commit(api.Commit{Tree: treeID(), Parents: []api.ID{x}})},
		[]op{commit(commitLikeX), setRef("x", x), setTag("x", x), tree(api.Entry{Path: "b", Blob: x}), commit(api.Commit{Tree: x, Parents: []api.ID{x}}), blob("x"), tree(api.Entry{Path: "b", Blob: x}), commit(commitLikeTree), commit(root), setTag("v", rootID), setRef("tree", treeID())},
	)
	do(t, d, s, nil, ops...)
}

// P9.3.
func TestRefs(t *testing.T) {
	d := diskOf(t, sample[:4].sealed())
	s, p := wantOpened(t, d)
	r := commitID(root)
	p = do(t, d, s, p, dropRef("main"), setRef("main", 5), setRef("main", 0), setRef("main", treeID()), setRef("main", idOf(1, []byte("x"))), setRef("main", commitID(next)),
		setRef("main", r), setRef("main", r), setRef("main", 5), setRef("main", 0), tree(two...), commit(next), setRef("main", commitID(next)), setRef("main", r),
		dropRef("main"), dropRef("main"), setRef("main", commitID(next)), dropRef("none"), dropRef("main"), setRef("main", r),
		setTag("main", commitID(next)), setRef("main", r), dropRef("main"), dropRef("main"), setTag("main", r), setRef(strings.Repeat("x", 16), r), setRef(".", r), setRef("..", r), setRef("_", r), setRef("0", r), setRef("objects", r),
		dropRef("."), dropRef("."), dropRef(strings.Repeat("x", 16)))
	for _, name := range noNames() {
		p = do(t, d, s, p, setRef(name, r), setRef(name, 5), setRef(name, 0), dropRef(name))
	}
}

func TestTags(t *testing.T) {
	d := diskOf(t, sample[:4].sealed())
	s, p := wantOpened(t, d)
	r := commitID(root)
	p = do(t, d, s, p, setTag("v", 5), setTag("v", 0), setTag("v", treeID()), setTag("v", idOf(1, []byte("x"))), setTag("v", commitID(next)),
		setTag("v", r), setTag("v", r), tree(two...), commit(next), setTag("v", commitID(next)), setTag("v", r), setTag("v", 5), setTag("v", 0), setTag("w", commitID(next)),
		dropRef("v"), setRef("v", commitID(next)), setRef("w", r), dropRef("v"), dropRef("v"), setTag("v", r), setTag(strings.Repeat("x", 16), r), setTag(".", r), setTag("..", r), setTag("_", r), setTag("0", r))
	for _, name := range noNames() {
		p = do(t, d, s, p, setTag(name, r), setTag(name, 5), setTag(name, 0))
	}
}

// P9.4: what is listed rises, however it came.
func TestListsRise(t *testing.T) {
	names := []string{"z", "a", "a.", "a0", "aa", "_", ".", "..", "0", "b", "a_", "ab", "main", "9", "m", strings.Repeat("z", 16), strings.Repeat("a", 16)}
	d := diskOf(t, sample[:2].sealed())
	s, p := wantOpened(t, d)
	above := 0
	for i, name := range names {
		c := api.Commit{Tree: treeID(), Date: int64(i), Note: name}
		if commitID(c) > math.MaxInt64 {
			above++
		}
		p = do(t, d, s, p, commit(c), setRef(name, commitID(c)), setTag(names[len(names)-1-i], commitID(c)))
	}
	if above == 0 || above == len(names) {
		t.Error("the IDs tell little:", above)
	}
	for _, list := range [][]api.Named{s.Refs(), s.Tags()} {
		if len(list) != len(names) || !slices.IsSortedFunc(list, func(a, b api.Named) int { return strings.Compare(a.Name, b.Name) }) {
			t.Error(list)
		}
	}
	if list := s.Commits(); len(list) != len(names) || !slices.IsSorted(list) {
		t.Errorf("%x", list)
	}
}

// writers are ops that each append a frame behind the sample.
func writers() []op {
	return []op{
		blob(), blob("new"), blob("ne", "", "wer"), blob(strings.Repeat("long", 100)), tree(files("a", "x")...), tree(files("a", "x", "b/c/d", "yy")...),
		commit(api.Commit{Tree: treeID(), Date: 1, Note: "new"}), commit(api.Commit{Tree: treeID(two...), Parents: []api.ID{commitID(merge), commitID(root)}}),
		setRef("main", commitID(root)), setRef("main", commitID(next)), setRef("new", commitID(next)), setRef("gone", commitID(merge)), dropRef("main"), dropRef("side"), setTag("new", commitID(next)), setTag("side", commitID(root)),
	}
}

// keepers are ops that append nothing, and answer without the disk.
func keepers() []op {
	return []op{
		blob("x"), blob("", "y", "y"), tree(), tree(two...), commit(root), commit(merge),
		blob(strings.Repeat("x", 4097)), blob(twinBlob), blob(zeroBlob), tree(files("A", "x")...), tree(files("a", "none")...), tree(manyFiles(65, "x")...), commit(api.Commit{}), commit(api.Commit{Date: -1}), commit(twinCommit), commit(zeroCommit),
		setRef("", commitID(root)), setRef("main", 0), dropRef("none"), dropRef("gone"), dropRef("A"), setTag("v1", commitID(root)), setTag("v1", 0), setTag("v2", 5), setTag("A", 5),
	}
}

// P9.5: the power goes off at each place of the frame; opened anew, also with the power going off in that, the store is as before, or has what was being put.
func TestThePowerGoesOff(t *testing.T) {
	for _, o := range writers() {
		_, _, f := o.want(sample)
		if f == nil {
			t.Fatal(o.what)
		}
		sealed := f.sealed()
		for keep := range len(sealed) + 3 {
			d := diskOf(t, sample.sealed())
			s := mustOpen(t, d)
			d.Cut(0, keep)
			wantRefused(t, s, sample, o, api.ErrDead)
			laid := append(sample.sealed(), sealed[:min(keep, len(sealed))]...)
			if !bytes.Equal(fileOf(d), laid) {
				t.Fatalf("%s: of %d bytes that are laid the file has %d more", o.what, keep, len(fileOf(d))-len(sample.sealed()))
			}
			torn := keep > 0 && keep < len(sealed)
			if torn {
				wantNotOpened(t, d, api.ErrDead)
				d.Restart()
				d.Cut(0, keep)
				wantNotOpened(t, d, api.ErrDead)
			}
			d.Restart()
			s, p := wantOpened(t, d)
			want := sample
			if keep >= len(sealed) {
				want = append(slices.Clip(sample), *f)
			}
			wantTold(t, s, want)
			do(t, d, s, p, o)
		}
	}
}

func TestADeadDisk(t *testing.T) {
	d := diskOf(t, sample.sealed())
	s := mustOpen(t, d)
	kill(d)
	for range 2 {
		for _, o := range writers() {
			wantRefused(t, s, sample, o, api.ErrDead)
		}
		for _, o := range keepers() {
			wantDone(t, d, s, sample, o)
		}
	}
	wantTold(t, s, sample)
	if !bytes.Equal(fileOf(d), sample.sealed()) {
		t.Error("the file was changed")
	}
}

// A raw write each, and none for what is there or refused.
func TestRawWrites(t *testing.T) {
	for _, o := range writers() {
		d := diskOf(t, sample.sealed())
		s := mustOpen(t, d)
		d.Cut(1, 0)
		p := wantDone(t, d, s, sample, o)
		if len(p) != len(sample)+1 || d.Dead() {
			t.Errorf("%s: the power went off: %v", o.what, d.Dead())
		}
		wantTold(t, s, p)
	}
	for _, o := range keepers() {
		d := diskOf(t, sample.sealed())
		s := mustOpen(t, d)
		d.Cut(0, 0)
		if p := wantDone(t, d, s, sample, o); len(p) != len(sample) || d.Dead() {
			t.Errorf("%s: it wrote", o.what)
		}
	}
}

// full is a store whose file has room for just so many bytes more.
func full(t *testing.T, room int) (*disk.Disk, *Store, plain) {
	t.Helper()
	p := slices.Clone(sample)
	for left := 262144 - room - len(p.sealed()); left > 0; {
		// Never a rest that is too small for a frame with a number in it.
		size := min(left-9, 4080)
		if rest := left - 9 - size; rest > 0 && rest < 13 {
			size -= 20
		}
		p = append(p, said{1, fmt.Appendf(nil, "%04d%*s", len(p), size-4, "")})
		left -= 9 + size
	}
	d := diskOf(t, p.sealed())
	s := mustOpen(t, d)
	if len(fileOf(d)) != 262144-room {
		t.Fatal(len(fileOf(d)))
	}
	return d, s, p
}

func TestAFullDisk(t *testing.T) {
	for _, o := range writers() {
		_, _, f := o.want(sample)
		d, s, p := full(t, len(f.sealed())-1)
		for range 2 {
			if id, e := o.do(s); id != 0 || e != api.ErrFull {
				t.Errorf("%s: %x, %v, want 0, %v", o.what, id, e, api.ErrFull)
			}
			d.Cut(0, 3)
		}
		if d.Dead() || !bytes.Equal(fileOf(d), p.sealed()) {
			t.Errorf("%s: what has no room was laid", o.what)
		}
		kill(d)
		wantRefused(t, s, p, o, api.ErrFull)
	}
	d, s, p := full(t, 9+5)
	p = wantDone(t, d, s, p, blob("fives"))
	if len(fileOf(d)) != 262144 {
		t.Error(len(fileOf(d)))
	}
	for _, o := range writers() {
		if id, e := o.do(s); id != 0 || e != api.ErrFull {
			t.Errorf("%s: %x, %v, want 0, %v", o.what, id, e, api.ErrFull)
		}
	}
	for _, o := range keepers() {
		wantDone(t, d, s, p, o)
	}
	wantTold(t, s, p)
	wantOpened(t, d)
}

func TestADiskOfManyFiles(t *testing.T) {
	d := disk.New()
	for i := range 32 {
		d.Put(fmt.Sprint("f", i))
	}
	s, _ := wantOpened(t, d)
	wantRefused(t, s, nil, blob("x"), api.ErrFull)
	wantRefused(t, s, nil, tree(), api.ErrFull)
	if _, there := d.Read("objects"); there {
		t.Error("the file is there")
	}
	wantDone(t, d, s, nil, setRef("main", 5))
	d.Remove("f7")
	do(t, d, s, nil, blob("x"), tree(), commit(root), setRef("main", commitID(root)))
	if len(d.Names()) != 32 {
		t.Error(d.Names())
	}
}

func TestExamples(t *testing.T) {
	d := disk.New()
	s := mustOpen(t, d)
	first, e := s.Blob([]byte("x"))
	again, f := s.Blob([]byte("x"))
	if e != api.OK || f != api.OK || first != again || !bytes.Equal(fileOf(d), said{1, []byte("x")}.sealed()) {
		t.Error(first, again, e, f, len(fileOf(d)))
	}
	if id, e := s.Tree(api.Entry{Path: "a", Blob: 5}); id != 0 || e != api.ErrMissing {
		t.Error(id, e)
	}
	if id, e := s.Commit(api.Commit{Tree: 5}); id != 0 || e != api.ErrMissing {
		t.Error(id, e)
	}
	if id, e := s.Commit(api.Commit{Tree: treeID()}); id != 0 || e != api.ErrMissing {
		t.Error(id, e)
	}
}

// world are the IDs and names that random ops draw from.
type world struct {
	r     *rand.Rand
	blobs []string
}

func pick[T any](r *rand.Rand, list []T) T { return list[r.Intn(len(list))] }

func (w world) name() string {
	return pick(w.r, []string{"main", "main", "side", "v1", "v2", "a", "b", ".", "A", "", "a/b", "xxxxxxxxxxxxxxxx", "xxxxxxxxxxxxxxxxx"})
}

// anID is one of an object of that kind, in most cases.
func (w world) anID(p plain, kind int) api.ID {
	var ids []api.ID
	for _, f := range p {
		if f.kind == kind || f.kind <= 3 && w.r.Intn(60) == 0 {
			ids = append(ids, f.id())
		}
	}
	if len(ids) == 0 || w.r.Intn(20) == 0 {
		return pick(w.r, []api.ID{0, 5, idOf(kind, nil), commitID(root)})
	}
	return pick(w.r, ids)
}

func (w world) entries(p plain) []api.Entry {
	var entries []api.Entry
	for _, name := range []string{"a", "a.b", "b", "b/c", "c/d/e", "d"} {
		if w.r.Intn(3) == 0 {
			entries = append(entries, api.Entry{Path: name, Blob: w.anID(p, 1)})
		}
	}
	return entries
}

func (w world) commit(p plain) api.Commit {
	c := api.Commit{Tree: w.anID(p, 2), Date: int64(w.r.Intn(3)), Note: pick(w.r, []string{"", "n", "m"})}
	for range w.r.Intn(3) {
		c.Parents = append(c.Parents, w.anID(p, 3))
	}
	return c
}

func (w world) op(p plain) op {
	switch w.r.Intn(8) {
	case 0:
		return blob(pick(w.r, w.blobs), pick(w.r, w.blobs))
	case 1:
		return blob(pick(w.r, w.blobs))
	case 2:
		return tree(w.entries(p)...)
	case 3, 4:
		return commit(w.commit(p))
	case 5:
		return setRef(w.name(), w.anID(p, 3))
	case 6:
		return dropRef(w.name())
	}
	return setTag(w.name(), w.anID(p, 3))
}

// Random calls, the power going off in some, bytes turned in some, against the words of the chapter.
func TestRandomCalls(t *testing.T) {
	w := world{rand.New(rand.NewSource(26)), []string{"", "x", "y", "xy", "zz", strings.Repeat("x", 4096), twinBlob, zeroBlob}}
	seen := map[api.Errno]int{}
	dead, torn := 0, 0
	for range 300 {
		d := disk.New()
		s, p := wantOpened(t, d)
		for range 60 {
			o := w.op(p)
			_, e, f := o.want(p)
			seen[e]++
			if f == nil || w.r.Intn(8) > 0 {
				p = wantDone(t, d, s, p, o)
				continue
			}
			d.Cut(0, w.r.Intn(len(f.sealed())+2))
			wantRefused(t, s, p, o, api.ErrDead)
			d.Restart()
			dead++
			if w.r.Intn(4) == 0 {
				d.Spoil("objects", w.r.Intn(len(fileOf(d))+1), byte(w.r.Intn(256)))
			}
			before := len(fileOf(d))
			s, p = wantOpened(t, d)
			if len(fileOf(d)) < before {
				torn++
			}
		}
		wantTold(t, s, p)
		s, p = wantOpened(t, d)
		if t.Failed() {
			t.FailNow()
		}
	}
	for _, e := range []api.Errno{api.OK, api.ErrName, api.ErrMissing, api.ErrTwice, api.ErrTree, api.ErrClash} {
		if seen[e] < 50 {
			t.Error("met too seldom to tell much:", seen)
		}
	}
	if dead < 500 || torn < 300 {
		t.Error("the power went off too seldom:", dead, torn)
	}
}

// Random files of frames, some of which fit.
func TestRandomFiles(t *testing.T) {
	r := rand.New(rand.NewSource(27))
	bad := badFrames()
	var odd []said
	for _, what := range slices.Sorted(func(yield func(string) bool) {
		for what := range bad {
			if !yield(what) {
				return
			}
		}
	}) {
		odd = append(odd, bad[what])
	}
	whole, cut := 0, 0
	for range 3000 {
		p := slices.Clone(sample)
		for range r.Intn(3) {
			i, j := r.Intn(len(p)), r.Intn(len(p))
			p[i], p[j] = p[j], p[i]
		}
		for range r.Intn(4) {
			p = append(p, pick(r, goodFrames()))
		}
		if r.Intn(4) == 0 {
			p = slices.Insert(p, r.Intn(len(p)+1), pick(r, odd))
		}
		if _, fit := wantOpened(t, diskOf(t, p.sealed())); len(fit) == len(p) {
			whole++
		} else {
			cut++
		}
		if t.Failed() {
			t.FailNow()
		}
	}
	if whole < 300 || cut < 300 {
		t.Errorf("%d whole, %d cut: too few to tell much", whole, cut)
	}
}

// Rule 3: what is handed in is not changed, its spare room neither, and not kept.
func TestWhatIsHandedIn(t *testing.T) {
	d := diskOf(t, sample.sealed())
	s, p := wantOpened(t, d)
	text := []byte("abcdefgh")
	parts := [][]byte{text[:2], text[2:2], text[4:6], text[6:]}
	kept := slices.Clone(parts)
	id, e := s.Blob(parts[:3]...)
	if e != api.OK || string(text) != "abcdefgh" || !slices.EqualFunc(parts, kept, bytes.Equal) {
		t.Error(e, text, parts)
	}
	clear(text)
	clear(parts)
	one := []byte("one alone")
	oneID, _ := s.Blob(one[:5])
	if string(one) != "one alone" {
		t.Errorf("%q", one)
	}
	clear(one)
	if b, _ := s.Data(oneID); string(b) != "one a" || oneID != idOf(1, []byte("one a")) {
		t.Errorf("%q", b)
	}
	if b, _ := s.Data(id); string(b) != "abef" {
		t.Errorf("%q", b)
	}
	p = append(slices.Clip(p), said{1, []byte("abef")}, said{1, []byte("one a")})
	entries := files("p", "x", "q", "yy", "r", "x")
	s.Tree(entries[:2]...)
	if !slices.Equal(entries, files("p", "x", "q", "yy", "r", "x")) {
		t.Error(entries)
	}
	clear(entries)
	parents := []api.ID{commitID(root), commitID(merge), 7}
	c := api.Commit{Tree: treeID(), Parents: parents[:2], Note: "handed"}
	s.Commit(c)
	if !slices.Equal(parents, []api.ID{commitID(root), commitID(merge), 7}) {
		t.Error(parents)
	}
	p = append(p, said{2, treeBytes(files("p", "x", "q", "yy"))}, said{3, commitBytes(c)})
	clear(parents)
	wantTold(t, s, p)
	if !bytes.Equal(fileOf(d), p.sealed()) {
		t.Error("the file has something else")
	}
}

// Rule 3: answers are new memory.
func TestAnswersAreNewMemory(t *testing.T) {
	d := diskOf(t, sample.sealed())
	s, p := wantOpened(t, d)
	p = do(t, d, s, p, blob("written"), tree(files("w", "written", "x", "x")...), commit(api.Commit{Tree: treeID(), Parents: []api.ID{commitID(root), commitID(next)}}))
	ask := func(id api.ID) {
		b, _ := s.Data(id)
		b2, _ := s.Data(id)
		clear(b[:cap(b)])
		clear(b2[:cap(b2)])
		l, _ := s.Files(id)
		clear(l[:cap(l)])
		c, _ := s.Get(id)
		clear(c.Parents[:cap(c.Parents)])
	}
	for _, f := range p {
		ask(f.id())
	}
	for _, list := range [][]api.Named{s.Refs(), s.Tags()} {
		clear(list[:cap(list)])
	}
	ids := s.Commits()
	clear(ids[:cap(ids)])
	wantTold(t, s, p)
	if !bytes.Equal(fileOf(d), p.sealed()) {
		t.Error("the file was changed")
	}
	for _, f := range p {
		a, _ := s.Data(f.id())
		b, _ := s.Data(f.id())
		want := bytes.Clone(b)
		for i := range a {
			a[i] ^= 0x5a
		}
		if !bytes.Equal(b, want) {
			t.Error("two answers share bytes")
		}
		x, _ := s.Files(f.id())
		y, _ := s.Files(f.id())
		entries := slices.Clone(y)
		clear(x)
		if !slices.Equal(y, entries) {
			t.Error("two answers share entries")
		}
		v, _ := s.Get(f.id())
		u, _ := s.Get(f.id())
		parents := slices.Clone(u.Parents)
		clear(v.Parents)
		if !slices.Equal(u.Parents, parents) {
			t.Error("two answers share parents")
		}
	}
}

// A text that is a piece of an argument would keep it.
func TestAnswersPointNowhereInto(t *testing.T) {
	d := diskOf(t, sample.sealed())
	s := mustOpen(t, d)
	long := strings.Repeat("a", 16)
	inside := func(text string) bool {
		at, from := uintptr(unsafe.Pointer(unsafe.StringData(text))), uintptr(unsafe.Pointer(unsafe.StringData(long)))
		return at >= from && at < from+uintptr(len(long))
	}
	s.SetRef(long[:3], commitID(root))
	s.SetTag(long[2:7], commitID(root))
	treeID, _ := s.Tree(api.Entry{Path: long[:4], Blob: idOf(1, []byte("x"))})
	id, _ := s.Commit(api.Commit{Tree: treeID, Note: long[3:]})
	for _, list := range [][]api.Named{s.Refs(), s.Tags()} {
		if slices.ContainsFunc(list, func(x api.Named) bool { return inside(x.Name) }) {
			t.Error("a name is a piece of what was handed in")
		}
	}
	entries, _ := s.Files(treeID)
	c, ok := s.Get(id)
	if len(entries) != 1 || inside(entries[0].Path) || !ok || inside(c.Note) {
		t.Error(entries, c, ok)
	}
}

// Rule 4: what a store answers hangs on its own disk and calls alone; the questions change nothing.
func TestStoresGoTheirOwnWays(t *testing.T) {
	d := diskOf(t, sample.sealed())
	like := d.Clone()
	s, p := wantOpened(t, d)
	other, q := wantOpened(t, like)
	p = do(t, d, s, p, blob("one"), setRef("main", commitID(root)), setTag("t", commitID(root)))
	q = do(t, like, other, q, blob("other"), dropRef("main"), setTag("u", commitID(next)))
	wantTold(t, s, p)
	wantTold(t, other, q)
	writes, file := d.Writes(), fileOf(d)
	wantTold(t, s, p)
	if d.Writes() != writes || !bytes.Equal(fileOf(d), file) {
		t.Error("a question wrote")
	}
}

// Rule 5: numbers, texts and lists of any kind are answered.
func TestAnyArguments(t *testing.T) {
	d := diskOf(t, sample.sealed())
	s := mustOpen(t, d)
	if id, e := s.Blob(make([]byte, 1<<24)); id != 0 || e != api.ErrLong {
		t.Error(id, e)
	}
	if id, e := s.Blob(make([][]byte, 1<<16)...); id != idOf(1, nil) || e != api.OK {
		t.Error(id, e)
	}
	if id, e := s.Tree(make([]api.Entry, 1<<16)...); id != 0 || e != api.ErrLong {
		t.Error(id, e)
	}
	if id, e := s.Commit(api.Commit{Parents: make([]api.ID, 1<<16), Note: strings.Repeat("n", 1<<20)}); id != 0 || e != api.ErrLong {
		t.Error(id, e)
	}
	r := rand.New(rand.NewSource(28))
	for range 2000 {
		b := make([]byte, r.Intn(60))
		r.Read(b)
		wantOpened(t, diskOf(t, slices.Concat(sample[:r.Intn(len(sample))].sealed(), b)))
	}
}
