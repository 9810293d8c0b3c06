package disk

import (
	"fmt"
	"maps"
	"math"
	"math/rand"
	"regexp"
	"slices"
	"strings"
	"testing"
	"unsafe"

	"forebear/api"
)

const (
	least = math.MinInt
	most  = math.MaxInt
)

// act is a call that changes a disk.
type act struct {
	kind     string
	name, to string
	parts    []string
	n, m     int
}

func put(name string, parts ...string) act { return act{kind: "put", name: name, parts: parts} }
func add(name string, parts ...string) act { return act{kind: "append", name: name, parts: parts} }
func trim(name string, n int) act          { return act{kind: "trim", name: name, n: n} }
func rename(from, to string) act           { return act{kind: "rename", name: from, to: to} }
func remove(name string) act               { return act{kind: "remove", name: name} }
func cutAt(after, keep int) act            { return act{kind: "cut", n: after, m: keep} }
func restart() act                         { return act{kind: "restart"} }
func spoil(name string, at int, mask byte) act {
	return act{kind: "spoil", name: name, n: at, m: int(mask)}
}

func (a act) String() string {
	return fmt.Sprintf("%s(%.20q %.20q %.40q %d %d)", a.kind, a.name, a.to, a.parts, a.n, a.m)
}

func partsOf(texts []string) [][]byte {
	var parts [][]byte
	for _, s := range texts {
		parts = append(parts, []byte(s))
	}
	return parts
}

func (a act) on(d *Disk) api.Errno {
	switch a.kind {
	case "put":
		return d.Put(a.name, partsOf(a.parts)...)
	case "append":
		return d.Append(a.name, partsOf(a.parts)...)
	case "trim":
		return d.Trim(a.name, a.n)
	case "rename":
		return d.Rename(a.name, a.to)
	case "remove":
		return d.Remove(a.name)
	case "cut":
		return d.Cut(a.n, a.m)
	case "spoil":
		return d.Spoil(a.name, a.n, byte(a.m))
	}
	d.Restart()
	return api.OK
}

// plain is a disk by the chapter's words, whose files are texts, and whose Cut is the list of its two numbers, or none.
type plain struct {
	files  map[string]string
	writes int
	dead   bool
	cut    []int
}

func newPlain() *plain { return &plain{files: map[string]string{}} }

func (p *plain) clone() *plain {
	return &plain{maps.Clone(p.files), p.writes, p.dead, slices.Clone(p.cut)}
}

var aName = regexp.MustCompile(`^[a-z0-9_.]{1,16}$`)

// refusal is why a call of one of the five is no raw write.
func (p *plain) refusal(a act) api.Errno {
	file, there := p.files[a.name]
	brings := a.kind == "put" || a.kind == "append"
	if !aName.MatchString(a.name) || a.kind == "rename" && !aName.MatchString(a.to) {
		return api.ErrName
	}
	if !there && !brings {
		return api.ErrMissing
	}
	if a.kind == "trim" && (a.n < 0 || a.n > len(file)) {
		return api.ErrRange
	}
	size := len(strings.Join(a.parts, ""))
	if a.kind == "append" {
		size += len(file)
	}
	if brings && (size > 262144 || !there && len(p.files)+1 > 32) {
		return api.ErrFull
	}
	return api.OK
}

// doRaw does one of the five that isn't refused, and brings the bytes that are handed in.
func (p *plain) doRaw(a act, bytes string) {
	file := p.files[a.name]
	switch a.kind {
	case "put":
		p.files[a.name] = bytes
	case "append":
		p.files[a.name] = file + bytes
	case "trim":
		p.files[a.name] = file[:a.n]
	case "rename":
		if a.to != a.name {
			p.files[a.to] = file
			delete(p.files, a.name)
		}
	case "remove":
		delete(p.files, a.name)
	}
}

func (p *plain) raw(a act) api.Errno {
	if e := p.refusal(a); e != api.OK {
		return e
	}
	if p.dead {
		return api.ErrDead
	}
	bytes := strings.Join(a.parts, "")
	if len(p.cut) == 0 || p.cut[0] > 0 {
		if len(p.cut) > 0 {
			p.cut[0]--
		}
		p.writes++
		p.doRaw(a, bytes)
		return api.OK
	}
	if a.kind == "put" || a.kind == "append" {
		if len(bytes) > p.cut[1] {
			bytes = bytes[:p.cut[1]]
		}
		p.doRaw(a, bytes)
	}
	p.dead, p.cut = true, nil
	return api.ErrDead
}

func (p *plain) do(a act) api.Errno {
	switch a.kind {
	case "cut":
		if a.n < 0 || a.m < 0 {
			return api.ErrRange
		}
		if p.dead {
			return api.ErrDead
		}
		p.cut = []int{a.n, a.m}
		return api.OK
	case "spoil":
		file, there := p.files[a.name]
		if !there {
			return api.ErrMissing
		}
		if a.n < 0 || a.n >= len(file) {
			return api.ErrRange
		}
		p.files[a.name] = file[:a.n] + string([]byte{file[a.n] ^ byte(a.m)}) + file[a.n+1:]
		return api.OK
	case "restart":
		p.dead, p.cut = false, nil
		return api.OK
	}
	return p.raw(a)
}

// wantLike holds all that a disk tells against the plain one.
func wantLike(t *testing.T, what any, d *Disk, p *plain) {
	t.Helper()
	if d.Writes() != p.writes || d.Dead() != p.dead {
		t.Errorf("%v: writes %d, dead %v, want %d, %v", what, d.Writes(), d.Dead(), p.writes, p.dead)
	}
	names := slices.Collect(maps.Keys(p.files))
	slices.Sort(names)
	if got := d.Names(); !slices.Equal(got, names) {
		t.Errorf("%v: the names %q, want %q", what, got, names)
	}
	for _, name := range names {
		if b, ok := d.Read(name); !ok || string(b) != p.files[name] {
			t.Errorf("%v: %s: %.40q (%d bytes), %v, want %.40q (%d bytes)", what, name, b, len(b), ok, p.files[name], len(p.files[name]))
		}
	}
}

// wantSame does acts on a disk and on the plain one, and holds them against each other behind each.
func wantSame(t *testing.T, d *Disk, p *plain, acts ...act) {
	t.Helper()
	for i, a := range acts {
		if got, want := a.on(d), p.do(a); got != want {
			t.Errorf("%v: %v, want %v", acts[:i+1], got, want)
		}
		wantLike(t, acts[:i+1], d, p)
	}
}

// step is an act and what it is to answer.
type step struct {
	act
	want api.Errno
}

// do does acts that are to answer OK.
func do(t *testing.T, d *Disk, acts ...act) {
	t.Helper()
	for _, a := range acts {
		if e := a.on(d); e != api.OK {
			t.Fatalf("%v: %v", a, e)
		}
	}
}

func wantSteps(t *testing.T, d *Disk, steps ...step) {
	t.Helper()
	for i, s := range steps {
		if e := s.on(d); e != s.want {
			t.Errorf("step %d, %v: %v, want %v", i, s.act, e, s.want)
		}
	}
}

// wantFiles asks for just these files, each told by its name and its bytes.
func wantFiles(t *testing.T, d *Disk, files ...string) {
	t.Helper()
	var names []string
	for i := 0; i < len(files); i += 2 {
		names = append(names, files[i])
		if b, ok := d.Read(files[i]); !ok || string(b) != files[i+1] {
			t.Errorf("%s: %.40q (%d bytes), %v, want %.40q (%d bytes)", files[i], b, len(b), ok, files[i+1], len(files[i+1]))
		}
	}
	if got := d.Names(); !slices.Equal(got, names) {
		t.Errorf("names: %q, want %q", got, names)
	}
}

func wantWrites(t *testing.T, d *Disk, want int, dead bool) {
	t.Helper()
	if d.Writes() != want || d.Dead() != dead {
		t.Errorf("writes %d, dead %v, want %d, %v", d.Writes(), d.Dead(), want, dead)
	}
}

// made is a disk with two files, a of three bytes and b of one, by two raw writes.
func made(t *testing.T) *Disk {
	t.Helper()
	d := New()
	do(t, d, put("a", "123"), put("b", "x"))
	return d
}

// died is a made disk that is dead; its third raw write wasn't done.
func died(t *testing.T) *Disk {
	t.Helper()
	d := made(t)
	do(t, d, cutAt(0, 0))
	if e := d.Remove("a"); e != api.ErrDead {
		t.Fatalf("Remove, in which the power goes off: %v", e)
	}
	return d
}

// manyFiles are the acts that make n files f0, f1 and so on.
func manyFiles(n int) []act {
	var acts []act
	for i := range n {
		acts = append(acts, put(fmt.Sprint("f", i), fmt.Sprint(i)))
	}
	return acts
}

// noNames are texts that are no names.
func noNames() []string {
	return []string{"", "A", "Z", "-", "/", "a/b", "/a", "a/", "a b", "a\n", "a\x00", "`", "{", "^", ":", "a,", "ä", "\xff", "a\xff",
		strings.Repeat("a", 17), strings.Repeat("a", 1<<16), "aaaaaaaaaaaaaaa/a"}
}

func TestExamples(t *testing.T) {
	d := New()
	wantSteps(t, d, step{put("a", "12"), api.OK}, step{cutAt(1, 1), api.OK}, step{add("a", "3"), api.OK})
	wantFiles(t, d, "a", "123")
	wantSteps(t, d, step{put("a", "45"), api.ErrDead})
	wantFiles(t, d, "a", "4")
	wantSteps(t, d, step{trim("a", 0), api.ErrDead}, step{restart(), api.OK}, step{trim("a", 2), api.ErrRange})
	wantFiles(t, d, "a", "4")
	wantWrites(t, d, 2, false)
}

func TestNew(t *testing.T) {
	d := New()
	wantFiles(t, d)
	wantWrites(t, d, 0, false)
	if b, ok := d.Read("a"); ok || len(b) != 0 {
		t.Errorf("Read of no file: %q, %v", b, ok)
	}
	wantSteps(t, d, step{trim("a", 0), api.ErrMissing}, step{remove("a"), api.ErrMissing}, step{rename("a", "b"), api.ErrMissing}, step{spoil("a", 0, 1), api.ErrMissing})
	wantFiles(t, d)
	wantWrites(t, d, 0, false)
	other := New()
	do(t, d, put("a", "1"), cutAt(0, 0))
	wantFiles(t, other)
	do(t, other, put("b", "2"))
	wantFiles(t, d, "a", "1")
	wantFiles(t, other, "b", "2")
}

// partsFor are lists of parts, and what they are in all.
func partsFor() map[string][][]byte {
	many := make([][]byte, 300)
	for i := range many {
		many[i] = []byte{byte(i)}
	}
	var all []byte
	for _, part := range many {
		all = append(all, part...)
	}
	// One text can stand for some lists, so a key ends with a letter that tells them apart.
	return map[string][][]byte{
		"n": nil, "e": {}, "o": {nil}, "p": {{}}, "q": {nil, {}, nil},
		"1r":              {[]byte("1")},
		"12s":             {[]byte("12")},
		"12t":             {[]byte("1"), []byte("2")},
		"12u":             {nil, []byte("1"), nil, {}, []byte("2"), nil},
		"12v":             {[]byte("12"), nil},
		"\x00\xff\n\x00w": {{0, 255}, {10}, {0}},
		string(all) + "x": many,
	}
}

func TestParts(t *testing.T) {
	for key, parts := range partsFor() {
		want := key[:len(key)-1]
		for _, call := range []func(d *Disk, name string, parts ...[]byte) api.Errno{(*Disk).Put, (*Disk).Append} {
			d := New()
			if e := call(d, "n", parts...); e != api.OK {
				t.Errorf("%q to a new file: %v", parts, e)
			}
			wantFiles(t, d, "n", want)
			wantWrites(t, d, 1, false)
		}
		d := made(t)
		if e := d.Put("a", parts...); e != api.OK {
			t.Errorf("Put of %q: %v", parts, e)
		}
		if e := d.Append("b", parts...); e != api.OK {
			t.Errorf("Append of %q: %v", parts, e)
		}
		wantFiles(t, d, "a", want, "b", "x"+want)
		if e := d.Append("a", parts...); e != api.OK {
			t.Errorf("Append of %q: %v", parts, e)
		}
		if e := d.Put("b", parts...); e != api.OK {
			t.Errorf("Put of %q: %v", parts, e)
		}
		wantFiles(t, d, "a", want+want, "b", want)
		wantWrites(t, d, 6, false)
	}
}

func TestEmptyFileIsThere(t *testing.T) {
	d := New()
	do(t, d, put("p"), add("q"), put("r", ""), put("s", "1"), trim("s", 0), rename("p", "o"), trim("q", 0), add("r"), put("t", "2"), put("t"))
	wantFiles(t, d, "o", "", "q", "", "r", "", "s", "", "t", "")
	wantWrites(t, d, 10, false)
	wantSteps(t, d, step{spoil("q", 0, 1), api.ErrRange}, step{remove("q"), api.OK}, step{remove("q"), api.ErrMissing})
}

func TestGoodNames(t *testing.T) {
	d := New()
	for _, name := range []string{"a", "z", "0", "9", "_", ".", "..", "abcdefghijklmnop", "_.09az"} {
		do(t, d, put(name, "1"), add(name, "2"), trim(name, 1), rename(name, "other"), rename("other", name))
		wantFiles(t, d, name, "1")
		do(t, d, remove(name))
		wantFiles(t, d)
	}
}

// askNoNames asks each call that takes a name with texts that are none.
func askNoNames(t *testing.T, d *Disk) {
	t.Helper()
	for _, s := range noNames() {
		wantSteps(t, d, step{put(s), api.ErrName}, step{put(s, "1"), api.ErrName}, step{add(s), api.ErrName}, step{add(s, "1"), api.ErrName},
			step{trim(s, 0), api.ErrName}, step{trim(s, -1), api.ErrName}, step{rename(s, "a"), api.ErrName}, step{rename("a", s), api.ErrName},
			step{rename(s, s), api.ErrName}, step{rename("none", s), api.ErrName}, step{remove(s), api.ErrName},
			step{spoil(s, 0, 1), api.ErrMissing}, step{spoil(s, -1, 1), api.ErrMissing})
		if b, ok := d.Read(s); ok || len(b) != 0 {
			t.Errorf("Read(%.20q): %q, %v", s, b, ok)
		}
	}
}

func TestNoNames(t *testing.T) {
	d := made(t)
	askNoNames(t, d)
	wantFiles(t, d, "a", "123", "b", "x")
	wantWrites(t, d, 2, false)
	d = died(t)
	askNoNames(t, d)
	wantFiles(t, d, "a", "123", "b", "x")
	wantWrites(t, d, 2, true)
}

func TestTrim(t *testing.T) {
	for _, n := range []int{0, 1, 2, 3} {
		d := made(t)
		do(t, d, trim("a", n))
		wantFiles(t, d, "a", "123"[:n], "b", "x")
		wantWrites(t, d, 3, false)
		wantSteps(t, d, step{trim("a", n+1), api.ErrRange})
		do(t, d, add("a", "45"))
		wantFiles(t, d, "a", "123"[:n]+"45", "b", "x")
		wantWrites(t, d, 4, false)
	}
	for _, n := range []int{-1, 4, 5, least, least + 3, most, most - 1, -3, 1 << 32, -1 << 32} {
		d := made(t)
		wantSteps(t, d, step{trim("a", n), api.ErrRange}, step{trim("none", n), api.ErrMissing}, step{trim("no name", n), api.ErrName})
		wantFiles(t, d, "a", "123", "b", "x")
		wantWrites(t, d, 2, false)
	}
}

func TestRename(t *testing.T) {
	d := made(t)
	do(t, d, rename("a", "c"))
	wantFiles(t, d, "b", "x", "c", "123")
	do(t, d, rename("c", "b"))
	wantFiles(t, d, "b", "123")
	do(t, d, rename("b", "b"))
	wantFiles(t, d, "b", "123")
	wantWrites(t, d, 5, false)
	wantSteps(t, d, step{rename("a", "b"), api.ErrMissing}, step{rename("a", "a"), api.ErrMissing}, step{rename("a", "z"), api.ErrMissing})
	wantFiles(t, d, "b", "123")
	wantWrites(t, d, 5, false)
	do(t, d, add("b", "4"), put("a", "new"), add("a", "er"))
	wantFiles(t, d, "a", "newer", "b", "1234")
}

func TestRemove(t *testing.T) {
	d := made(t)
	do(t, d, remove("a"))
	wantFiles(t, d, "b", "x")
	wantSteps(t, d, step{remove("a"), api.ErrMissing}, step{trim("a", 0), api.ErrMissing}, step{rename("a", "b"), api.ErrMissing}, step{spoil("a", 0, 1), api.ErrMissing})
	if b, ok := d.Read("a"); ok || len(b) != 0 {
		t.Errorf("Read of what was removed: %q, %v", b, ok)
	}
	wantWrites(t, d, 3, false)
	do(t, d, add("a", "7"))
	wantFiles(t, d, "a", "7", "b", "x")
}

func TestBytesOfAFile(t *testing.T) {
	text := strings.Repeat("0123456789abcdef", 262144/16+1)
	for _, size := range []int{262143, 262144, 262145} {
		want := api.OK
		if size > 262144 {
			want = api.ErrFull
		}
		for _, at := range []int{0, 1, 1000, 262143, min(size, 262144)} {
			head, tail := text[:at], text[at:size]
			d := New()
			wantSteps(t, d, step{put("p", head, tail), want}, step{add("q", head, "", tail), want}, step{put("r", head), api.OK}, step{add("r", tail), want},
				step{put("s", head), api.OK}, step{put("s", tail, head), want})
			if want == api.OK {
				wantFiles(t, d, "p", text[:size], "q", text[:size], "r", text[:size], "s", tail+head)
			} else {
				wantFiles(t, d, "r", head, "s", head)
			}
		}
	}
}

func TestOneByteTooMany(t *testing.T) {
	whole := strings.Repeat("w", 262144)
	d := New()
	do(t, d, put("a", whole), add("a"), add("a", "", ""))
	wantSteps(t, d, step{add("a", "1"), api.ErrFull}, step{put("a", whole, "1"), api.ErrFull}, step{put("a", "1", whole), api.ErrFull}, step{put("b", whole, whole), api.ErrFull},
		step{put("b", whole, "1", "", ""), api.ErrFull}, step{add("b", whole+"1"), api.ErrFull})
	wantFiles(t, d, "a", whole)
	wantWrites(t, d, 3, false)
	// What stood ahead counts for an Append alone, and a file's bytes are for no other file.
	do(t, d, put("a", whole), put("b", whole), rename("a", "b"), trim("b", 262143), add("b", "1"))
	wantFiles(t, d, "b", whole[1:]+"1")
}

// Far more bytes than there is room for: none of them are gone through.
func TestFarTooMany(t *testing.T) {
	part := make([]byte, 262144)
	parts := make([][]byte, 1<<20)
	for i := range parts {
		parts[i] = part
	}
	d := made(t)
	if e := d.Put("a", parts...); e != api.ErrFull {
		t.Errorf("Put: %v", e)
	}
	if e := d.Append("a", parts...); e != api.ErrFull {
		t.Errorf("Append: %v", e)
	}
	clear(parts)
	if e := d.Append("a", parts...); e != api.OK {
		t.Errorf("Append of parts that are nil: %v", e)
	}
	wantFiles(t, d, "a", "123", "b", "x")
}

func TestHowManyFiles(t *testing.T) {
	for _, bring := range []func(name string, parts ...string) act{put, add} {
		d := New()
		do(t, d, manyFiles(30)...)
		do(t, d, bring("x31", "1"), bring("x32", "2"))
		for _, full := range []act{bring("x33", "3"), bring("x33"), put("x33"), add("x33")} {
			wantSteps(t, d, step{full, api.ErrFull})
		}
		if names := d.Names(); len(names) != 32 || slices.Contains(names, "x33") {
			t.Errorf("names: %q", names)
		}
		wantWrites(t, d, 32, false)
		// What is there may be written to, and a rename makes no file more.
		do(t, d, bring("x31", "n"), bring("f0"), put("x32", "m"), add("f1", "m"), rename("x31", "x33"))
		wantSteps(t, d, step{bring("x31"), api.ErrFull}, step{remove("f0"), api.OK}, step{bring("x31", "again"), api.OK}, step{bring("f0"), api.ErrFull})
		do(t, d, rename("f2", "f3"), bring("f2", "z"))
		if b, ok := d.Read("x31"); !ok || string(b) != "again" {
			t.Errorf("x31: %q, %v", b, ok)
		}
		if b, ok := d.Read("f1"); !ok || string(b) != "1m" {
			t.Errorf("f1: %q, %v", b, ok)
		}
		if n := len(d.Names()); n != 32 {
			t.Errorf("%d files", n)
		}
	}
}

// askErrors asks calls that meet two errors or more; a disk has the files a and b, or these among 32.
func askErrors(t *testing.T, d *Disk, full bool, dead bool) {
	t.Helper()
	long := strings.Repeat("l", 262145)
	wantSteps(t, d, step{put("A", long), api.ErrName}, step{add("A", long), api.ErrName}, step{trim("A", -1), api.ErrName}, step{rename("A", "none"), api.ErrName},
		step{rename("none", "A"), api.ErrName}, step{remove("A"), api.ErrName}, step{trim("none", -1), api.ErrMissing}, step{trim("none", most), api.ErrMissing},
		step{rename("none", "a"), api.ErrMissing}, step{remove("none"), api.ErrMissing}, step{trim("a", -1), api.ErrRange}, step{trim("a", 4), api.ErrRange},
		step{put("a", long), api.ErrFull}, step{put("none", long), api.ErrFull}, step{add("a", long[2:], "22"), api.ErrFull}, step{add("none", long), api.ErrFull},
		step{spoil("none", -1, 1), api.ErrMissing}, step{spoil("A", most, 1), api.ErrMissing}, step{spoil("a", 3, 1), api.ErrRange},
		step{cutAt(-1, 0), api.ErrRange}, step{cutAt(0, -1), api.ErrRange}, step{cutAt(-1, -1), api.ErrRange})
	if full {
		wantSteps(t, d, step{put("none"), api.ErrFull}, step{add("none"), api.ErrFull})
	}
	if dead {
		wantSteps(t, d, step{cutAt(0, 0), api.ErrDead}, step{put("a", "9"), api.ErrDead}, step{put("a"), api.ErrDead}, step{add("a", "9"), api.ErrDead}, step{add("a"), api.ErrDead},
			step{trim("a", 3), api.ErrDead}, step{trim("a", 0), api.ErrDead}, step{rename("a", "b"), api.ErrDead}, step{rename("a", "a"), api.ErrDead}, step{rename("a", "new"), api.ErrDead}, step{remove("a"), api.ErrDead})
	}
	if dead && !full {
		wantSteps(t, d, step{put("new"), api.ErrDead}, step{add("new", "9"), api.ErrDead})
	}
}

func TestFirstError(t *testing.T) {
	for _, many := range []int{0, 30} {
		for _, dead := range []bool{false, true} {
			d, p := made(t), newPlain()
			p.files, p.writes, p.dead = map[string]string{"a": "123", "b": "x"}, 2+many, dead
			for i, a := range manyFiles(many) {
				do(t, d, a)
				p.files[a.name] = fmt.Sprint(i)
			}
			if dead {
				do(t, d, cutAt(0, 9))
				wantSteps(t, d, step{rename("a", "b"), api.ErrDead})
			}
			askErrors(t, d, many == 30, dead)
			wantLike(t, "errors", d, p)
			// And a Cut that waits has counted none of them.
			d.Restart()
			do(t, d, cutAt(1, 0))
			askErrors(t, d, many == 30, false)
			p.dead = false
			wantLike(t, "errors, a Cut waits", d, p)
			wantSteps(t, d, step{trim("a", 3), api.OK}, step{trim("a", 0), api.ErrDead})
			p.dead, p.writes = true, p.writes+1
			wantLike(t, "the power went off", d, p)
		}
	}
}

func TestCutNumbers(t *testing.T) {
	wrong := [][2]int{{-1, 0}, {0, -1}, {-1, -1}, {least, 0}, {0, least}, {least, least}, {most, least}, {least, most}, {-1, most}, {most, -1}}
	for _, c := range wrong {
		d := made(t)
		wantSteps(t, d, step{cutAt(c[0], c[1]), api.ErrRange}, step{remove("a"), api.OK}, step{remove("b"), api.OK}, step{put("a", "9"), api.OK})
		wantFiles(t, d, "a", "9")
		wantWrites(t, d, 5, false)
		d = died(t)
		wantSteps(t, d, step{cutAt(c[0], c[1]), api.ErrRange})
		wantFiles(t, d, "a", "123", "b", "x")
		// A refused Cut leaves the one that waits.
		d = made(t)
		wantSteps(t, d, step{cutAt(1, 1), api.OK}, step{cutAt(c[0], c[1]), api.ErrRange}, step{remove("b"), api.OK}, step{put("a", "89"), api.ErrDead})
		wantFiles(t, d, "a", "8")
		wantWrites(t, d, 3, true)
	}
	d := made(t)
	wantSteps(t, d, step{cutAt(most, most), api.OK}, step{put("a", "1"), api.OK}, step{add("b", "1"), api.OK}, step{cutAt(0, most), api.OK}, step{add("a", "23"), api.ErrDead})
	wantFiles(t, d, "a", "123", "b", "x1")
	wantWrites(t, d, 4, true)
}

func TestCutCounts(t *testing.T) {
	writes := []act{put("a", "45"), put("n", "6"), add("a", "7"), add("m"), trim("a", 3), rename("a", "o"), rename("o", "o"), rename("o", "b"), remove("b"), put("n")}
	for after := range writes {
		d, p := made(t), newPlain()
		wantSame(t, New(), p, put("a", "123"), put("b", "x"))
		wantSame(t, d, p, cutAt(after, 1))
		wantSame(t, d, p, writes...)
		wantWrites(t, d, 2+after, true)
	}
	d := made(t)
	do(t, d, cutAt(len(writes), 1))
	do(t, d, writes...)
	wantWrites(t, d, 12, false)
	wantSteps(t, d, step{remove("n"), api.ErrDead})
	wantWrites(t, d, 12, true)
}

func TestNoRawWriteCounts(t *testing.T) {
	d := made(t)
	do(t, d, cutAt(1, 0))
	for range 3 {
		askErrors(t, d, false, false)
		askNoNames(t, d)
		do(t, d, spoil("a", 0, 0), spoil("a", 2, 0))
		d.Read("a")
		d.Names()
		d.Clone().Remove("a")
	}
	wantWrites(t, d, 2, false)
	wantSteps(t, d, step{add("b", "y"), api.OK}, step{add("b", "z"), api.ErrDead})
	wantFiles(t, d, "a", "123", "b", "xy")
	wantWrites(t, d, 3, true)
}

func TestCutInThePlaceOfAnother(t *testing.T) {
	d := made(t)
	do(t, d, cutAt(0, 0), cutAt(1, 2), put("a", "4"))
	wantSteps(t, d, step{put("a", "567"), api.ErrDead})
	wantFiles(t, d, "a", "56", "b", "x")
	d = made(t)
	do(t, d, cutAt(5, 2), put("a", "4"), cutAt(0, 1))
	wantSteps(t, d, step{put("a", "567"), api.ErrDead})
	wantFiles(t, d, "a", "5", "b", "x")
	wantWrites(t, d, 3, true)
	wantSteps(t, d, step{cutAt(0, 0), api.ErrDead}, step{cutAt(9, 9), api.ErrDead}, step{restart(), api.OK}, step{put("a", "8"), api.OK}, step{put("a", "9"), api.OK})
	wantWrites(t, d, 5, false)
	do(t, d, cutAt(0, 0), restart(), cutAt(1, 1), put("a", "7"))
	wantSteps(t, d, step{add("a", "89"), api.ErrDead})
	wantFiles(t, d, "a", "78", "b", "x")
}

func TestPowerGoesOff(t *testing.T) {
	tests := []struct {
		act
		keep  int
		files []string
	}{
		{put("a", "45", "", "6"), 0, []string{"a", "", "b", "x"}},
		{put("a", "45", "", "6"), 1, []string{"a", "4", "b", "x"}},
		{put("a", "45", "", "6"), 2, []string{"a", "45", "b", "x"}},
		{put("a", "45", "", "6"), 3, []string{"a", "456", "b", "x"}},
		{put("a", "45", "", "6"), 4, []string{"a", "456", "b", "x"}},
		{put("a", "45", "", "6"), most, []string{"a", "456", "b", "x"}},
		{put("a"), 0, []string{"a", "", "b", "x"}},
		{put("a"), 5, []string{"a", "", "b", "x"}},
		{put("c", "45", "6"), 0, []string{"a", "123", "b", "x", "c", ""}},
		{put("c", "45", "6"), 2, []string{"a", "123", "b", "x", "c", "45"}},
		{put("c", "45", "6"), 3, []string{"a", "123", "b", "x", "c", "456"}},
		{put("c", "45", "6"), 9, []string{"a", "123", "b", "x", "c", "456"}},
		{put("c"), 1, []string{"a", "123", "b", "x", "c", ""}},
		{add("a", "4", "56"), 0, []string{"a", "123", "b", "x"}},
		{add("a", "4", "56"), 2, []string{"a", "12345", "b", "x"}},
		{add("a", "4", "56"), 3, []string{"a", "123456", "b", "x"}},
		{add("a", "4", "56"), 4, []string{"a", "123456", "b", "x"}},
		{add("a", "4", "56"), most, []string{"a", "123456", "b", "x"}},
		{add("a"), 2, []string{"a", "123", "b", "x"}},
		{add("c", "4", "56"), 0, []string{"a", "123", "b", "x", "c", ""}},
		{add("c", "4", "56"), 1, []string{"a", "123", "b", "x", "c", "4"}},
		{add("c", "4", "56"), 3, []string{"a", "123", "b", "x", "c", "456"}},
		{add("c", "4", "56"), 9, []string{"a", "123", "b", "x", "c", "456"}},
		{add("c"), 0, []string{"a", "123", "b", "x", "c", ""}},
		{trim("a", 0), 0, []string{"a", "123", "b", "x"}},
		{trim("a", 1), 2, []string{"a", "123", "b", "x"}},
		{trim("a", 3), most, []string{"a", "123", "b", "x"}},
		{rename("a", "b"), 0, []string{"a", "123", "b", "x"}},
		{rename("a", "c"), 9, []string{"a", "123", "b", "x"}},
		{rename("a", "a"), 1, []string{"a", "123", "b", "x"}},
		{remove("a"), 0, []string{"a", "123", "b", "x"}},
		{remove("b"), most, []string{"a", "123", "b", "x"}},
	}
	for _, tt := range tests {
		d := made(t)
		do(t, d, cutAt(0, tt.keep))
		wantWrites(t, d, 2, false)
		for range 2 {
			wantSteps(t, d, step{tt.act, api.ErrDead})
			wantFiles(t, d, tt.files...)
			wantWrites(t, d, 2, true)
		}
		wantSteps(t, d, step{cutAt(0, tt.keep), api.ErrDead}, step{put("b", "no"), api.ErrDead}, step{add("b", "no"), api.ErrDead})
		wantFiles(t, d, tt.files...)
		d.Restart()
		wantFiles(t, d, tt.files...)
		wantWrites(t, d, 2, false)
		do(t, d, tt.act, put("b", "yes"))
		wantWrites(t, d, 4, false)
	}
}

// What a raw write would bring is held against the bounds, not what is laid of it.
func TestCutAtTheBounds(t *testing.T) {
	whole := strings.Repeat("w", 262144)
	d := New()
	do(t, d, put("a", whole[2:]), cutAt(0, 1))
	wantSteps(t, d, step{add("a", "123"), api.ErrFull}, step{put("a", whole, "1"), api.ErrFull}, step{add("a", "12"), api.ErrDead})
	wantFiles(t, d, "a", whole[2:]+"1")
	wantSteps(t, d, step{add("a", "12"), api.ErrFull}, step{add("a", "1"), api.ErrDead})
	wantWrites(t, d, 1, true)
	// A file that a cut write made is a file like the others.
	d = New()
	do(t, d, manyFiles(31)...)
	do(t, d, cutAt(0, 0))
	wantSteps(t, d, step{put("last", "1"), api.ErrDead}, step{put("more"), api.ErrFull}, step{add("more"), api.ErrFull}, step{put("last"), api.ErrDead},
		step{restart(), api.OK}, step{put("more"), api.ErrFull}, step{add("last", "2"), api.OK})
	if n := len(d.Names()); n != 32 {
		t.Errorf("%d files", n)
	}
}

func TestRestart(t *testing.T) {
	d := made(t)
	d.Restart()
	wantFiles(t, d, "a", "123", "b", "x")
	wantWrites(t, d, 2, false)
	for _, after := range []int{0, 1} {
		do(t, d, cutAt(after, 0), restart(), put("a", "1"), add("a", "23"), trim("a", 3), rename("a", "c"), rename("c", "a"))
		wantFiles(t, d, "a", "123", "b", "x")
	}
	wantWrites(t, d, 12, false)
	d = died(t)
	do(t, d, restart(), restart(), remove("b"), cutAt(0, 0))
	wantSteps(t, d, step{remove("a"), api.ErrDead}, step{restart(), api.OK}, step{remove("a"), api.OK})
	wantFiles(t, d)
	wantWrites(t, d, 4, false)
}

func TestNamesRise(t *testing.T) {
	names := []string{"b", "a", "aa", "a.", "a_", "_", ".", "0", "9", "z", "zz", "a0", "..", "abcdefghijklmnop", "az"}
	want := []string{".", "..", "0", "9", "_", "a", "a.", "a0", "a_", "aa", "abcdefghijklmnop", "az", "b", "z", "zz"}
	for i := range names {
		d := New()
		for j := range names {
			do(t, d, put(names[(i+j)%len(names)]))
		}
		for range 3 {
			if got := d.Names(); !slices.Equal(got, want) {
				t.Fatalf("names: %q, want %q", got, want)
			}
		}
		do(t, d, cutAt(0, 0))
		wantSteps(t, d, step{remove("a"), api.ErrDead})
		if got := d.Names(); !slices.Equal(got, want) {
			t.Errorf("names of a dead disk: %q, want %q", got, want)
		}
	}
}

func TestDeadDiskIsRead(t *testing.T) {
	d := died(t)
	wantFiles(t, d, "a", "123", "b", "x")
	wantWrites(t, d, 2, true)
	for _, name := range []string{"c", "", "A", "a/b", "aa"} {
		if b, ok := d.Read(name); ok || len(b) != 0 {
			t.Errorf("Read(%q): %q, %v", name, b, ok)
		}
	}
}

func TestSpoil(t *testing.T) {
	for _, d := range []*Disk{made(t), died(t)} {
		dead := d.Dead()
		wantSteps(t, d, step{spoil("a", 0, 1), api.OK}, step{spoil("a", 2, 0xff), api.OK}, step{spoil("b", 0, 0x80), api.OK}, step{spoil("a", 1, 0), api.OK})
		wantFiles(t, d, "a", "02\xcc", "b", "\xf8")
		wantSteps(t, d, step{spoil("a", 3, 1), api.ErrRange}, step{spoil("a", -1, 1), api.ErrRange}, step{spoil("a", least, 1), api.ErrRange}, step{spoil("a", most, 1), api.ErrRange},
			step{spoil("b", 1, 0), api.ErrRange}, step{spoil("c", 0, 1), api.ErrMissing}, step{spoil("", 0, 1), api.ErrMissing}, step{spoil("a/b", -1, 1), api.ErrMissing})
		wantFiles(t, d, "a", "02\xcc", "b", "\xf8")
		wantSteps(t, d, step{spoil("a", 0, 1), api.OK}, step{spoil("a", 2, 0xff), api.OK}, step{spoil("b", 0, 0x80), api.OK})
		wantFiles(t, d, "a", "123", "b", "x")
		wantWrites(t, d, 2, dead)
	}
	// Behind what was trimmed there is no byte, and a byte that was spoilt is renamed and added to with the file.
	d := made(t)
	do(t, d, trim("a", 1))
	wantSteps(t, d, step{spoil("a", 1, 1), api.ErrRange}, step{spoil("a", 0, 2), api.OK}, step{rename("a", "b"), api.OK}, step{add("b", "4"), api.OK}, step{spoil("b", 1, 1), api.OK})
	wantFiles(t, d, "b", "35")
	do(t, d, put("b", "67"))
	wantFiles(t, d, "b", "67")
}

// A disk and its clone, each of which is changed, by turns: neither sees what the other one is told.
func TestClone(t *testing.T) {
	changes := []act{put("a", "new"), add("a", "45"), add("a", "6"), trim("a", 1), rename("a", "b"), rename("b", "c"), remove("a"), remove("b"), put("n", "n"), add("n", "n"),
		spoil("a", 0, 3), spoil("b", 0, 3), cutAt(0, 1), cutAt(2, 0), restart()}
	starts := [][]act{nil, {cutAt(0, 1)}, {cutAt(1, 2)}, {cutAt(3, 0)}, {cutAt(0, 0), remove("a")}, {cutAt(0, 1), put("a", "89")}, {add("a", "s"), add("a", "t"), trim("a", 4)}}
	for _, start := range starts {
		for _, x := range changes {
			for _, y := range changes {
				d, p := New(), newPlain()
				wantSame(t, d, p, put("a", "123"), put("b", "x"))
				wantSame(t, d, p, start...)
				e, q := d.Clone(), p.clone()
				wantLike(t, "a clone", e, q)
				wantSame(t, d, p, x)
				wantLike(t, "a clone, its first disk changed", e, q)
				wantSame(t, e, q, y)
				wantLike(t, "a disk, its clone changed", d, p)
				wantSame(t, d, p, add("a", "D"), put("b", "D"), restart(), add("a", "D"))
				wantSame(t, e, q, add("a", "E"), put("b", "E"), restart(), add("a", "E"))
				wantLike(t, "both changed", d, p)
			}
		}
	}
}

// A clone doesn't grow in the spare room of the first disk's files, nor the other way.
func TestClonesGrowApart(t *testing.T) {
	for first := range 40 {
		d, p := New(), newPlain()
		for i := range first {
			wantSame(t, d, p, add("a", fmt.Sprint(i)))
		}
		e, q := d.Clone(), p.clone()
		f, r := e.Clone(), q.clone()
		wantSame(t, d, p, add("a", "ddd"))
		wantSame(t, e, q, add("a", "eeee"))
		wantSame(t, f, r, add("a", "f"))
		wantLike(t, "first", d, p)
		wantLike(t, "clone", e, q)
	}
}

// Rule 3: what is handed in is not changed, its spare room neither, and not kept.
func TestWhatIsHandedIn(t *testing.T) {
	one, two := []byte("12SPARE"), []byte("3SPARE")
	list := [][]byte{one[:2], two[:1], one, two}
	d := New()
	for _, keep := range []int{0, 1, 2, 9, most} {
		for _, call := range []func(d *Disk, name string, parts ...[]byte) api.Errno{(*Disk).Put, (*Disk).Append} {
			call(d, "p", list[:2]...)
			call(d, "q", list[:1]...)
			call(d, "A", list...)
			d.Cut(0, keep)
			call(d, "p", list[:1]...)
			call(d, "p", list[:2]...)
			d.Restart()
			call(d, "p", list[:2]...)
			call(d, "p", []byte("4"))
		}
	}
	if string(one) != "12SPARE" || string(two) != "3SPARE" || len(list) != 4 || &list[0][0] != &one[0] || len(list[0]) != 2 || &list[1][0] != &two[0] || len(list[1]) != 1 ||
		&list[2][0] != &one[0] || len(list[2]) != 7 || &list[3][0] != &two[0] || len(list[3]) != 6 {
		t.Errorf("handed in, and changed: %q, %q, %q", one, two, list)
	}

	d = New()
	d.Put("p", list[:1]...)
	d.Put("q", list[:2]...)
	d.Append("r", list[:1]...)
	d.Append("s", one[:1])
	d.Append("s", one[1:2], nil)
	d.Append("s", two[:1])
	d.Spoil("p", 0, 1)
	d.Append("p", []byte("z"))
	if string(one) != "12SPARE" {
		t.Errorf("handed in, and changed: %q", one)
	}
	clear(one)
	clear(two)
	clear(list)
	wantFiles(t, d, "p", "02z", "q", "123", "r", "12", "s", "123")
}

// A name that is a piece of a long text is kept without it.
func TestNamesAreNotKept(t *testing.T) {
	long := strings.Repeat("name", 100)
	start, end := unsafe.Pointer(unsafe.StringData(long)), unsafe.Add(unsafe.Pointer(unsafe.StringData(long)), len(long))
	d := New()
	do(t, d, put(long[1:5], "1"), put(long[1:5], "12"), add(long[2:7], "3"), add(long[2:7], "4"), trim(long[1:5], 1), rename(long[1:5], long[3:9]), rename(long[2:7], long[2:7]))
	for _, name := range d.Names() {
		at := unsafe.Pointer(unsafe.StringData(name))
		if uintptr(at) >= uintptr(start) && uintptr(at) < uintptr(end) {
			t.Errorf("%s is a piece of the text that was handed in", name)
		}
	}
	wantFiles(t, d, "enamen", "1", "menam", "34")
}

// Rule 3: answers are new memory: to write into one, or behind it, changes no other, nor the disk.
func TestAnswersApart(t *testing.T) {
	d := made(t)
	do(t, d, add("a", "4"), add("a", "5"), put("c"))
	for _, name := range []string{"a", "b", "c"} {
		first, _ := d.Read(name)
		second, _ := d.Read(name)
		want := string(first)
		clear(append(first, "behind"...))
		clear(first)
		clear(first[:cap(first)])
		if string(second) != want {
			t.Errorf("%s, read ahead of the change: %q, want %q", name, second, want)
		}
	}
	first, second := d.Names(), d.Names()
	clear(append(first, "behind"))
	clear(first)
	if !slices.Equal(second, []string{"a", "b", "c"}) {
		t.Errorf("names: %q", second)
	}
	wantFiles(t, d, "a", "12345", "b", "x", "c", "")
	// What was read stays as it is, whatever becomes of the file.
	read, _ := d.Read("a")
	do(t, d, spoil("a", 0, 1), trim("a", 2), add("a", "zzz"), put("a", "yyyyyyy"), rename("b", "a"), remove("a"))
	if string(read) != "12345" {
		t.Errorf("read ahead of the changes: %q", read)
	}
}

// Every line of three calls out of many, with each Cut that may go off in them.
func TestAllShortLines(t *testing.T) {
	calls := []act{put("a", "45", "6"), put("b"), put("A", "1"), add("a", "7", "8"), add("b", "9"), trim("a", 0), trim("a", 2), trim("b", 1), rename("a", "b"), rename("b", "a"), rename("a", "a"),
		rename("a", "c d"), remove("a"), remove("b"), restart(), cutAt(0, 1), cutAt(1, 0), cutAt(0, -1), spoil("a", 1, 7)}
	for n := range len(calls) * len(calls) * len(calls) {
		d, p := New(), newPlain()
		d.Put("a", []byte("123"))
		p.do(put("a", "123"))
		wantSame(t, d, p, calls[n%len(calls)], calls[n/len(calls)%len(calls)], calls[n/len(calls)/len(calls)])
	}
}

func randomText(r *rand.Rand) string {
	b := make([]byte, r.Intn(6))
	for i := range b {
		b[i] = byte(r.Intn(256))
	}
	return string(b)
}

func randomName(r *rand.Rand) string {
	if r.Intn(20) == 0 {
		names := noNames()
		return names[r.Intn(len(names))]
	}
	return fmt.Sprint("n", r.Intn(40))
}

func randomAct(r *rand.Rand, files int) act {
	name := randomName(r)
	if r.Intn(2) == 0 && files > 0 {
		name = fmt.Sprint("n", r.Intn(5))
	}
	var parts []string
	for range r.Intn(4) {
		parts = append(parts, randomText(r))
	}
	switch r.Intn(16) {
	case 0:
		return trim(name, r.Intn(12)-2)
	case 1, 2:
		return rename(name, randomName(r))
	case 3:
		return remove(name)
	case 4:
		return cutAt(r.Intn(9)-1, r.Intn(9)-1)
	case 5:
		return restart()
	case 6:
		return spoil(name, r.Intn(12)-2, byte(r.Intn(256)))
	case 7, 8, 9, 10:
		return add(name, parts...)
	}
	return put(name, parts...)
}

// Long lines of random calls, on a disk and on clones of it.
func TestRandomLines(t *testing.T) {
	r := rand.New(rand.NewSource(6))
	dead, full := 0, 0
	for round := range 60 {
		disks, plains := []*Disk{New()}, []*plain{newPlain()}
		for i := range round {
			a := put(fmt.Sprint("n", i%32), randomText(r))
			wantSame(t, disks[0], plains[0], a)
		}
		for range 300 {
			i := r.Intn(len(disks))
			if r.Intn(60) == 0 && len(disks) < 4 {
				disks, plains = append(disks, disks[i].Clone()), append(plains, plains[i].clone())
			}
			a := randomAct(r, len(plains[i].files))
			got, want := a.on(disks[i]), plains[i].do(a)
			if got != want {
				t.Fatalf("%v: %v, want %v", a, got, want)
			}
			if want == api.ErrDead {
				dead++
			}
			if want == api.ErrFull {
				full++
			}
			for j := range disks {
				wantLike(t, a, disks[j], plains[j])
			}
		}
	}
	if dead < 100 || full < 100 {
		t.Errorf("too few were dead (%d) or full (%d) to tell much", dead, full)
	}
}
