package frame

import (
	"bytes"
	"encoding/binary"
	"encoding/hex"
	"fmt"
	"hash/crc32"
	"math"
	"math/rand"
	"slices"
	"strings"
	"testing"
	"unsafe"

	"forebear/api"
)

// filled are n bytes, few of which are alike.
func filled(n int) []byte {
	b := make([]byte, n)
	for i := range b {
		b[i] = byte(i*7 + i>>8 + n)
	}
	return b
}

// withSum lays the check sum behind bytes, by another program's words: the IEEE CRC-32.
func withSum(b []byte) []byte {
	return binary.BigEndian.AppendUint32(slices.Clone(b), crc32.ChecksumIEEE(b))
}

// wantSealed is a sealed frame by the chapter's words.
func wantSealed(f Frame) []byte {
	b := binary.BigEndian.AppendUint32(nil, uint32(len(f.Body)))
	b = append(b, byte(f.Kind))
	return withSum(append(b, f.Body...))
}

func wantRow(frames ...Frame) []byte {
	var row []byte
	for _, f := range frames {
		row = append(row, wantSealed(f)...)
	}
	return row
}

// plainOpen is Open by the chapter's words, one behind the other.
func plainOpen(b []byte) (Frame, int, api.Errno) {
	if len(b) < 4 {
		return Frame{}, 0, api.ErrShort
	}
	told := int64(binary.BigEndian.Uint32(b))
	if told > 8192 {
		return Frame{}, 0, api.ErrLong
	}
	if int64(len(b)) < 9+told {
		return Frame{}, 0, api.ErrShort
	}
	ahead := b[:5+told]
	if !bytes.HasPrefix(b, withSum(ahead)) {
		return Frame{}, 0, api.ErrSum
	}
	return Frame{int(b[4]), slices.Clone(ahead[5:])}, len(ahead) + 4, api.OK
}

func plainCut(b []byte) ([]Frame, int, api.Errno) {
	if len(b) == 0 {
		return nil, 0, api.OK
	}
	f, n, e := plainOpen(b)
	if e != api.OK {
		return nil, 0, e
	}
	rest, m, e := plainCut(b[n:])
	return append([]Frame{f}, rest...), n + m, e
}

func sameFrame(a, b Frame) bool { return a.Kind == b.Kind && bytes.Equal(a.Body, b.Body) }

// short tells bytes in few signs.
func short(b []byte) string { return fmt.Sprintf("%.24x (%d bytes)", b, len(b)) }

func shortFrame(f Frame) string { return fmt.Sprintf("{%d, %s}", f.Kind, short(f.Body)) }

func shortFrames(frames []Frame) string {
	var texts []string
	for _, f := range frames {
		texts = append(texts, shortFrame(f))
	}
	return strings.Join(texts, " ")
}

func wantBytes(t *testing.T, what string, got []byte, e api.Errno, want []byte) {
	t.Helper()
	if e != api.OK || !bytes.Equal(got, want) {
		t.Errorf("%s: %s, %v, want %s", what, short(got), e, short(want))
	}
}

func wantNoBytes(t *testing.T, what string, got []byte, e, want api.Errno) {
	t.Helper()
	if e != want || len(got) != 0 {
		t.Errorf("%s: %s, %v, want no bytes, %v", what, short(got), e, want)
	}
}

func wantOpened(t *testing.T, b []byte, want Frame, size int) {
	t.Helper()
	if f, n, e := Open(b); e != api.OK || n != size || !sameFrame(f, want) {
		t.Errorf("Open(%s): %s, %d, %v, want %s, %d", short(b), shortFrame(f), n, e, shortFrame(want), size)
	}
}

func wantShut(t *testing.T, b []byte, want api.Errno) {
	t.Helper()
	if f, n, e := Open(b); e != want || n != 0 || f.Kind != 0 || len(f.Body) != 0 {
		t.Errorf("Open(%s): %s, %d, %v, want none, 0, %v", short(b), shortFrame(f), n, e, want)
	}
}

func wantCut(t *testing.T, b []byte, frames []Frame, size int, want api.Errno) {
	t.Helper()
	got, n, e := Cut(b)
	if e != want || n != size || !slices.EqualFunc(got, frames, sameFrame) {
		t.Errorf("Cut(%s): %s, %d, %v, want %s, %d, %v", short(b), shortFrames(got), n, e, shortFrames(frames), size, want)
	}
}

// someFrames are frames of many kinds and sizes, the edges among them.
func someFrames() []Frame {
	frames := []Frame{{0, nil}, {0, []byte{}}, {255, nil}, {1, []byte("a")}, {7, []byte{0}}, {255, []byte{255}}}
	for i, n := range []int{1, 2, 8, 9, 255, 256, 257, 4095, 4096, 8191, 8192} {
		frames = append(frames, Frame{i * 25, filled(n)})
	}
	return append(frames, Frame{0, make([]byte, 8192)}, Frame{9, bytes.Repeat([]byte{255}, 8192)})
}

// row8 is a row of small frames, of which some are without bytes and two are alike.
func row8() []Frame {
	return []Frame{{3, []byte("abc")}, {0, nil}, {255, filled(20)}, {3, []byte("abc")}, {1, []byte{0, 0, 0, 0, 0}}, {0, nil}, {128, filled(1)}, {9, filled(300)}}
}

// P7.1: Seal.
func TestSealOfKnownBytes(t *testing.T) {
	for _, c := range []struct {
		f    Frame
		want string
	}{
		{Frame{1, []byte("a")}, "00000001" + "01" + "61" + "93aeab1b"},
		{Frame{0, nil}, "00000000" + "00" + "c622f71d"},
		{Frame{0, []byte{}}, "00000000" + "00" + "c622f71d"},
		{Frame{255, nil}, "00000000" + "ff" + "eb201890"},
		{Frame{7, []byte("xyz")}, "00000003" + "07" + "78797a" + "ab9afe75"},
	} {
		want, err := hex.DecodeString(c.want)
		if err != nil {
			t.Fatal(err)
		}
		got, e := Seal(c.f)
		wantBytes(t, "Seal of "+shortFrame(c.f), got, e, want)
	}
}

func TestSealOfSizes(t *testing.T) {
	for _, f := range someFrames() {
		got, e := Seal(f)
		wantBytes(t, "Seal of "+shortFrame(f), got, e, wantSealed(f))
		if len(got) != 9+len(f.Body) {
			t.Errorf("Seal of %s: %d bytes", shortFrame(f), len(got))
		}
	}
	for n := range 600 {
		f := Frame{n % 256, filled(n)}
		got, e := Seal(f)
		wantBytes(t, "Seal of "+shortFrame(f), got, e, wantSealed(f))
	}
}

func TestSealOfEachKind(t *testing.T) {
	for kind := range 256 {
		for _, n := range []int{0, 1, 5} {
			f := Frame{kind, filled(n)}
			got, e := Seal(f)
			wantBytes(t, "Seal of "+shortFrame(f), got, e, wantSealed(f))
		}
	}
}

func noKinds() []int {
	return []int{-1, 256, -2, 257, -255, -256, 511, 512, 1 << 16, math.MaxInt32, math.MinInt32, math.MaxInt, math.MaxInt - 255, math.MinInt, math.MinInt + 1}
}

func TestSealOfNoKind(t *testing.T) {
	for _, kind := range noKinds() {
		for _, body := range [][]byte{nil, {}, []byte("a"), filled(8192), filled(8193), filled(20000)} {
			f := Frame{kind, body}
			got, e := Seal(f)
			wantNoBytes(t, "Seal of "+shortFrame(f), got, e, api.ErrRange)
		}
	}
}

func TestSealOfLongBodies(t *testing.T) {
	for _, kind := range []int{0, 1, 255} {
		for _, n := range []int{8193, 8194, 16384, 1 << 16, 1<<16 + 1, 1 << 20} {
			f := Frame{kind, make([]byte, n)}
			got, e := Seal(f)
			wantNoBytes(t, "Seal of "+shortFrame(f), got, e, api.ErrLong)
		}
	}
}

// P7.1: Row.
func TestRow(t *testing.T) {
	got, e := Row()
	wantBytes(t, "Row of none", got, e, nil)
	got, e = Row([]Frame{}...)
	wantBytes(t, "Row of an empty list", got, e, nil)
	for _, f := range someFrames() {
		got, e := Row(f)
		wantBytes(t, "Row of "+shortFrame(f), got, e, wantSealed(f))
		got, e = Row(f, f)
		wantBytes(t, "Row of twice "+shortFrame(f), got, e, slices.Concat(wantSealed(f), wantSealed(f)))
	}
	for _, frames := range [][]Frame{row8(), someFrames(), slices.Repeat(row8(), 50)} {
		got, e := Row(frames...)
		wantBytes(t, "Row of "+shortFrames(frames[:8]), got, e, wantRow(frames...))
	}
}

func TestRowWithOneRefused(t *testing.T) {
	for _, bad := range []struct {
		f    Frame
		want api.Errno
	}{
		{Frame{-1, nil}, api.ErrRange},
		{Frame{256, []byte("a")}, api.ErrRange},
		{Frame{math.MinInt, filled(8193)}, api.ErrRange},
		{Frame{0, filled(8193)}, api.ErrLong},
		{Frame{255, filled(9000)}, api.ErrLong},
	} {
		got, e := Row(bad.f)
		wantNoBytes(t, "Row of "+shortFrame(bad.f), got, e, bad.want)
		for place := range len(row8()) + 1 {
			got, e := Row(slices.Insert(row8(), place, bad.f)...)
			wantNoBytes(t, fmt.Sprint("Row with ", shortFrame(bad.f), " at ", place), got, e, bad.want)
		}
	}
}

func TestRowWithTwoRefused(t *testing.T) {
	long, kind, both := Frame{0, filled(8193)}, Frame{256, nil}, Frame{-1, filled(8193)}
	good := Frame{1, []byte("a")}
	for _, c := range []struct {
		frames []Frame
		want   api.Errno
	}{
		{[]Frame{long, kind}, api.ErrLong},
		{[]Frame{kind, long}, api.ErrRange},
		{[]Frame{long, both}, api.ErrLong},
		{[]Frame{both, long}, api.ErrRange},
		{[]Frame{good, long, good, kind, good}, api.ErrLong},
		{[]Frame{good, kind, good, long, good}, api.ErrRange},
		{[]Frame{good, good, long, kind}, api.ErrLong},
		{[]Frame{kind, good, good, long}, api.ErrRange},
	} {
		got, e := Row(c.frames...)
		wantNoBytes(t, "Row of "+shortFrames(c.frames), got, e, c.want)
	}
}

// P7.2.
func TestOpenOfSealed(t *testing.T) {
	for _, f := range someFrames() {
		sealed, e := Seal(f)
		if e != api.OK {
			t.Fatal(e)
		}
		wantOpened(t, sealed, f, 9+len(f.Body))
		wantOpened(t, wantSealed(f), f, 9+len(f.Body))
	}
	for kind := range 256 {
		wantOpened(t, wantSealed(Frame{kind, []byte("ab")}), Frame{kind, []byte("ab")}, 11)
		wantOpened(t, wantSealed(Frame{kind, nil}), Frame{kind, nil}, 9)
	}
}

func TestOpenWithMoreBehind(t *testing.T) {
	for _, f := range someFrames() {
		sealed := wantSealed(f)
		for _, more := range [][]byte{{0}, {9}, {255, 255, 255, 255}, wantSealed(Frame{1, []byte("next")}), sealed, sealed[:8], filled(10000)} {
			wantOpened(t, slices.Concat(sealed, more), f, len(sealed))
		}
	}
}

func TestOpenOfFewBytes(t *testing.T) {
	wantShut(t, nil, api.ErrShort)
	for n := range 9 {
		wantShut(t, make([]byte, n), api.ErrShort)
	}
	for n := range 4 {
		wantShut(t, bytes.Repeat([]byte{255}, n), api.ErrShort)
	}
	for n := 4; n < 30; n++ {
		wantShut(t, bytes.Repeat([]byte{255}, n), api.ErrLong)
	}
	wantShut(t, make([]byte, 9), api.ErrSum)
	wantShut(t, make([]byte, 10), api.ErrSum)
}

// What the first four bytes tell, held against how many bytes there are.
func TestOpenOfToldNumbers(t *testing.T) {
	for _, c := range []struct {
		told uint32
		size int
		want api.Errno
	}{
		{0, 4, api.ErrShort}, {0, 5, api.ErrShort}, {0, 8, api.ErrShort}, {0, 9, api.ErrSum},
		{1, 9, api.ErrShort}, {1, 10, api.ErrSum},
		{256, 264, api.ErrShort}, {256, 265, api.ErrSum},
		{8191, 4, api.ErrShort}, {8191, 8199, api.ErrShort}, {8191, 8200, api.ErrSum},
		{8192, 4, api.ErrShort}, {8192, 9, api.ErrShort}, {8192, 8192, api.ErrShort}, {8192, 8200, api.ErrShort}, {8192, 8201, api.ErrSum},
		{8193, 4, api.ErrLong}, {8193, 9, api.ErrLong}, {8193, 8201, api.ErrLong}, {8193, 8202, api.ErrLong}, {8193, 20000, api.ErrLong},
		{1 << 16, 4, api.ErrLong}, {1 << 16, 1<<16 + 9, api.ErrLong}, {1<<16 + 1, 10, api.ErrLong}, {1 << 24, 9, api.ErrLong},
		{math.MaxInt32, 4, api.ErrLong}, {math.MaxInt32, 100, api.ErrLong},
		{1 << 31, 4, api.ErrLong}, {1 << 31, 9, api.ErrLong}, {1<<31 + 1, 10, api.ErrLong}, {1<<31 + 8192, 8201, api.ErrLong},
		{math.MaxUint32 - 8, 4, api.ErrLong}, {math.MaxUint32 - 8, 9, api.ErrLong}, {math.MaxUint32, 4, api.ErrLong}, {math.MaxUint32, 8, api.ErrLong}, {math.MaxUint32, 9000, api.ErrLong},
	} {
		b := make([]byte, c.size)
		binary.BigEndian.PutUint32(b, c.told)
		wantShut(t, b, c.want)
	}
}

// A right check sum helps neither a frame that is too long nor one with other bytes ahead of it.
func TestOpenOfLongOnesWithRightSums(t *testing.T) {
	for _, n := range []int{8193, 8194, 10000, 1 << 16} {
		sealed := wantSealed(Frame{1, filled(n)})
		wantShut(t, sealed, api.ErrLong)
		wantShut(t, sealed[:len(sealed)-1], api.ErrLong)
		wantShut(t, sealed[:4], api.ErrLong)
		wantShut(t, sealed[:3], api.ErrShort)
	}
	// The sum of the Body, of the Body with its Kind, of the bytes without the Kind, and the right one with its lowest byte first.
	body := []byte("body")
	head := []byte{0, 0, 0, 4, 2}
	for _, summed := range [][]byte{body, slices.Concat(head[4:], body), slices.Concat(head[:4], body), slices.Concat(head, body, []byte{0})} {
		b := slices.Concat(head, body)
		wantShut(t, binary.BigEndian.AppendUint32(b, crc32.ChecksumIEEE(summed)), api.ErrSum)
	}
	b := slices.Concat(head, body)
	wantShut(t, binary.LittleEndian.AppendUint32(b, crc32.ChecksumIEEE(b)), api.ErrSum)
}

func TestOpenCutOffAtEachPlace(t *testing.T) {
	for _, f := range []Frame{{0, nil}, {1, []byte("a")}, {255, filled(40)}, {3, filled(8191)}, {3, filled(8192)}} {
		sealed := wantSealed(f)
		for n := range sealed {
			wantShut(t, sealed[:n], api.ErrShort)
			// Spare room has the rest, and doesn't count.
			wantShut(t, sealed[:n:n], api.ErrShort)
		}
	}
}

// spoilt are the bytes with the one at a place turned by a mask.
func spoilt(b []byte, at int, mask byte) []byte {
	other := slices.Clone(b)
	other[at] ^= mask
	return other
}

// Of a changed byte among the first four the number that is told becomes too great, greater or less.
func spoiltError(told uint32, size int) api.Errno {
	if told > 8192 {
		return api.ErrLong
	}
	if int(told)+9 > size {
		return api.ErrShort
	}
	return api.ErrSum
}

func TestOpenWithEachByteChanged(t *testing.T) {
	for _, f := range []Frame{{0, nil}, {1, []byte("a")}, {200, filled(17)}, {255, filled(300)}} {
		sealed := wantSealed(f)
		for at := range sealed {
			for mask := 1; mask < 256; mask++ {
				b := spoilt(sealed, at, byte(mask))
				wantShut(t, b, spoiltError(binary.BigEndian.Uint32(b), len(b)))
			}
		}
	}
	sealed := wantSealed(Frame{9, filled(8192)})
	for at := 0; at < len(sealed); at += 1 + min(at, len(sealed)-1-at)/8 {
		for bit := range 8 {
			b := spoilt(sealed, at, 1<<bit)
			wantShut(t, b, spoiltError(binary.BigEndian.Uint32(b), len(b)))
		}
	}
}

// Where two errors are met, the one that the promise names first is told.
func TestOpenTellsTheFirstError(t *testing.T) {
	wrong := spoilt(wantSealed(Frame{1, filled(30)}), 20, 4)
	wantShut(t, wrong, api.ErrSum)
	for n := range wrong {
		wantShut(t, wrong[:n], api.ErrShort)
	}
	long := spoilt(wrong, 1, 1)
	for n := range long {
		if n < 4 {
			wantShut(t, long[:n], api.ErrShort)
		} else {
			wantShut(t, long[:n], api.ErrLong)
		}
	}
	wantShut(t, []byte{0, 0, 0x20}, api.ErrShort)
	wantShut(t, []byte{0xff, 0xff, 0xff}, api.ErrShort)
	wantShut(t, []byte{0, 0, 0x20, 0}, api.ErrShort)
	wantShut(t, []byte{0, 0, 0x20, 1}, api.ErrLong)
}

// P7.3.
func TestCutOfNone(t *testing.T) {
	wantCut(t, nil, nil, 0, api.OK)
	wantCut(t, []byte{}, nil, 0, api.OK)
	for n := 1; n < 9; n++ {
		wantCut(t, make([]byte, n), nil, 0, api.ErrShort)
	}
	wantCut(t, make([]byte, 9), nil, 0, api.ErrSum)
	wantCut(t, []byte{0, 0, 0x20, 1}, nil, 0, api.ErrLong)
}

func TestCutOfRows(t *testing.T) {
	for _, f := range someFrames() {
		wantCut(t, wantSealed(f), []Frame{f}, 9+len(f.Body), api.OK)
	}
	for _, frames := range [][]Frame{row8(), someFrames(), slices.Repeat(row8(), 50), slices.Repeat([]Frame{{}}, 1000)} {
		row, e := Row(frames...)
		if e != api.OK {
			t.Fatal(e)
		}
		wantCut(t, row, frames, len(row), api.OK)
	}
}

// ends are how many bytes the first frames of a list have: none, one, two, and so on.
func ends(frames []Frame) []int {
	list := []int{0}
	for i, f := range frames {
		list = append(list, list[i]+9+len(f.Body))
	}
	return list
}

func TestCutOfRowsCutOffAtEachPlace(t *testing.T) {
	for _, frames := range [][]Frame{row8(), {{1, filled(8192)}, {2, []byte("ab")}}} {
		row, ends := wantRow(frames...), ends(frames)
		whole := 0
		for n := range len(row) + 1 {
			if whole+1 < len(ends) && n >= ends[whole+1] {
				whole++
			}
			want := api.ErrShort
			if n == ends[whole] {
				want = api.OK
			}
			// The frames that are whole are told again and again; of the long one some places do.
			if n < 400 || n > len(row)-30 || n%97 == 0 {
				wantCut(t, row[:n], frames[:whole], ends[whole], want)
			}
		}
	}
}

// A byte of each part of each frame changed: those ahead are told, and none behind.
func TestCutOfRowsWithAByteChanged(t *testing.T) {
	frames := row8()
	row, ends := wantRow(frames...), ends(frames)
	for i := range frames {
		for at := ends[i] + 4; at < ends[i+1]; at++ {
			wantCut(t, spoilt(row, at, 1<<(at%8)), frames[:i], ends[i], api.ErrSum)
		}
		for at := ends[i]; at < ends[i]+2; at++ {
			wantCut(t, spoilt(row, at, 128), frames[:i], ends[i], api.ErrLong)
		}
		wantCut(t, spoilt(row, ends[i]+2, 0x10), frames[:i], ends[i], api.ErrShort)
		wantCut(t, spoilt(row, ends[i]+2, 0x40), frames[:i], ends[i], api.ErrLong)
	}
}

func TestCutOfRowsWithOthersBehind(t *testing.T) {
	for _, frames := range [][]Frame{{{1, []byte("a")}}, row8(), someFrames()} {
		row := wantRow(frames...)
		for _, c := range []struct {
			behind []byte
			want   api.Errno
		}{
			{[]byte{0}, api.ErrShort},
			{[]byte{255, 255, 255}, api.ErrShort},
			{[]byte{255, 255, 255, 255}, api.ErrLong},
			{[]byte{0, 0, 0x20, 1, 0}, api.ErrLong},
			{[]byte{0, 0, 0x20, 0, 0}, api.ErrShort},
			{make([]byte, 8), api.ErrShort},
			{make([]byte, 9), api.ErrSum},
			{make([]byte, 500), api.ErrSum},
			{wantSealed(Frame{1, filled(8193)}), api.ErrLong},
			{append(make([]byte, 9), wantSealed(Frame{1, nil})...), api.ErrSum},
			{append([]byte{0}, wantSealed(Frame{1, []byte("a")})...), api.ErrSum},
		} {
			wantCut(t, append(slices.Clone(row), c.behind...), frames, len(row), c.want)
		}
	}
}

func TestExample(t *testing.T) {
	row, e := Row(Frame{1, []byte("a")}, Frame{2, []byte("b")})
	if e != api.OK {
		t.Fatal(e)
	}
	wantCut(t, row[:len(row)-1], []Frame{{1, []byte("a")}}, 10, api.ErrShort)
}

func randomFrame(r *rand.Rand) Frame {
	sizes := []int{0, 1, 5, 40, 300, 8190}
	body := make([]byte, sizes[r.Intn(len(sizes))]+r.Intn(3))
	r.Read(body)
	return Frame{r.Intn(256), body}
}

// mangled are bytes to which one of several things was done.
func mangled(r *rand.Rand, b []byte) []byte {
	at := r.Intn(len(b) + 1)
	switch r.Intn(6) {
	case 0:
		return b[:at]
	case 1:
		return b[at:]
	case 2:
		return slices.Insert(slices.Clone(b), at, byte(r.Intn(256)))
	case 3:
		if at < len(b) {
			return spoilt(b, at, byte(r.Intn(256)))
		}
	case 4:
		if at < len(b) {
			return slices.Delete(slices.Clone(b), at, at+1)
		}
	}
	return b
}

// Rows of random frames, whole and mangled, against Open and Cut by the words of the chapter.
func TestRandomRows(t *testing.T) {
	r := rand.New(rand.NewSource(7))
	seen := map[api.Errno]int{}
	for range 3000 {
		var frames []Frame
		for range r.Intn(6) {
			frames = append(frames, randomFrame(r))
		}
		row, e := Row(frames...)
		wantBytes(t, "Row of "+shortFrames(frames), row, e, wantRow(frames...))
		b := mangled(r, row)
		list, size, want := plainCut(b)
		wantCut(t, b, list, size, want)
		seen[want]++
		if f, n, e := plainOpen(b); e == api.OK {
			wantOpened(t, b, f, n)
		} else {
			wantShut(t, b, e)
		}
	}
	for _, e := range []api.Errno{api.OK, api.ErrShort, api.ErrLong, api.ErrSum} {
		if seen[e] < 50 {
			t.Errorf("%v was met too seldom to tell much: %d", e, seen[e])
		}
	}
}

// Rule 3: what is handed in is not changed, its spare room neither.
func TestWhatIsHandedInStays(t *testing.T) {
	room := []byte("abcdefghijklmnopqrstuvwxyz")
	frames := []Frame{{1, room[:3]}, {2, room[3:3]}, {3, room[5:9]}, {256, room[9:12]}}
	before := slices.Clone(frames)
	for _, f := range frames {
		Seal(f)
	}
	Row(frames[:3]...)
	Row(frames...)
	Row(frames[:0]...)
	if string(room) != "abcdefghijklmnopqrstuvwxyz" {
		t.Errorf("bodies were changed: %q", room)
	}
	for i, f := range frames {
		if f.Kind != before[i].Kind || len(f.Body) != len(before[i].Body) || unsafe.SliceData(f.Body) != unsafe.SliceData(before[i].Body) {
			t.Errorf("frame %d was changed: %s", i, shortFrame(f))
		}
	}
	row := wantRow(row8()...)
	for n := range len(row) + 1 {
		b := slices.Clone(row)
		Open(b[:n])
		Cut(b[:n])
		if !bytes.Equal(b, row) {
			t.Fatalf("the bytes were changed, of which %d were handed in", n)
		}
	}
}

// fill writes over a list of bytes and over its spare room.
func fill(b []byte) {
	b = b[:cap(b)]
	for i := range b {
		b[i] ^= 0x5a
	}
}

// Rule 3: nothing is kept of what was handed in, and answers are new memory.
func TestSealedIsNewMemory(t *testing.T) {
	for _, f := range someFrames() {
		body := slices.Clone(f.Body)
		first, _ := Seal(Frame{f.Kind, body})
		second, _ := Seal(Frame{f.Kind, body})
		row, _ := Row(Frame{f.Kind, body})
		twice, _ := Row(Frame{f.Kind, body}, Frame{f.Kind, body})
		fill(first)
		if !bytes.Equal(body, f.Body) {
			t.Errorf("%s: sealed bytes are its Body's", shortFrame(f))
		}
		fill(body)
		want := wantSealed(f)
		if !bytes.Equal(second, want) || !bytes.Equal(row, want) || !bytes.Equal(twice, slices.Concat(want, want)) {
			t.Errorf("%s: sealed bytes are its Body's, or two answers share them", shortFrame(f))
		}
		again, e := Seal(f)
		wantBytes(t, "Seal again", again, e, want)
	}
}

func TestOpenedIsNewMemory(t *testing.T) {
	for _, f := range someFrames() {
		b := wantSealed(f)
		first, _, _ := Open(b)
		second, _, _ := Open(b)
		fill(first.Body)
		if !bytes.Equal(b, wantSealed(f)) || !sameFrame(second, f) {
			t.Errorf("%s: a Body is a piece of what was opened, or of another answer", shortFrame(f))
		}
		fill(b)
		if !sameFrame(second, f) {
			t.Errorf("%s: what was opened is kept", shortFrame(f))
		}
	}
}

// Of a Body without bytes too: a piece of b of no bytes keeps b.
func TestOpenedBodyPointsNowhereInto(t *testing.T) {
	b := wantSealed(Frame{4, nil})
	f, _, _ := Open(b)
	frames, _, _ := Cut(b)
	for _, body := range [][]byte{f.Body, frames[0].Body} {
		for i := range b {
			if body != nil && unsafe.SliceData(body) == &b[i] {
				t.Errorf("the Body begins at byte %d of what was opened", i)
			}
		}
	}
}

func TestCutIsNewMemory(t *testing.T) {
	frames := append(row8(), someFrames()...)
	b := wantRow(frames...)
	for i := range frames {
		list, n, e := Cut(b)
		others, _, _ := Cut(b)
		if e != api.OK || n != len(b) || len(list) != len(frames) {
			t.Fatal(len(list), n, e)
		}
		fill(list[i].Body)
		list[i].Kind = -1
		if !bytes.Equal(b, wantRow(frames...)) || !slices.EqualFunc(others, frames, sameFrame) {
			t.Fatalf("frame %d is a piece of what was cut, or of another answer", i)
		}
		for j := range frames {
			if j != i && !sameFrame(list[j], frames[j]) {
				t.Fatalf("the Bodies of %d and %d share memory", i, j)
			}
		}
	}
	list, _, _ := Cut(b)
	fill(b)
	if !slices.EqualFunc(list, frames, sameFrame) {
		t.Error("what was cut is kept")
	}
}

// Rule 4: what was asked before is not to be seen in an answer.
func TestAnswersHangOnTheirArguments(t *testing.T) {
	good := Frame{1, []byte("a")}
	want := wantSealed(good)
	for _, f := range []Frame{{-1, nil}, {0, filled(8193)}, {2, filled(8192)}, {255, nil}} {
		Row(good, f)
		Open(make([]byte, 9))
		Cut(append(slices.Clone(want), 1))
		got, e := Seal(good)
		wantBytes(t, "Seal", got, e, want)
		got, e = Row(good, good)
		wantBytes(t, "Row", got, e, slices.Concat(want, want))
		wantOpened(t, want, good, 10)
		wantCut(t, want, []Frame{good}, 10, api.OK)
	}
}
