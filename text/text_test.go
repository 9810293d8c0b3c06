package text

import (
	"math"
	"math/rand"
	"slices"
	"strings"
	"testing"
)

const (
	least = math.MinInt
	most  = math.MaxInt
)

func wantTexts(t *testing.T, what string, got []string, want ...string) {
	t.Helper()
	if !slices.Equal(got, want) {
		t.Errorf("%s: %.200q, want %.200q", what, got, want)
	}
}

func wantRuns(t *testing.T, got []Run, want ...Run) {
	t.Helper()
	if !slices.Equal(got, want) {
		t.Errorf("runs: %v, want %v", got, want)
	}
}

// wantIn asks for the same answer whichever way round the runs stand.
func wantIn(t *testing.T, want bool, n int, runs ...Run) {
	t.Helper()
	if got := In(n, runs...); got != want {
		t.Errorf("%d in %v: %v", n, runs, got)
	}
	turned := slices.Clone(runs)
	slices.Reverse(turned)
	if got := In(n, turned...); got != want {
		t.Errorf("%d in %v: %v", n, turned, got)
	}
}

// linesOf cuts byte by byte, by the chapter's words.
func linesOf(s string) []string {
	var lines []string
	line := ""
	for i := range len(s) {
		line += s[i : i+1]
		if s[i] == 10 {
			lines = append(lines, line)
			line = ""
		}
	}
	if line != "" {
		lines = append(lines, line)
	}
	return lines
}

// wantLines holds the lines of a text against the words of P4.1.
func wantLines(t *testing.T, s string) {
	t.Helper()
	lines := Lines(s)
	wantTexts(t, "lines", lines, linesOf(s)...)
	for i, line := range lines {
		ends := strings.Count(line, "\x0a")
		if line == "" || ends > 1 || ends == 1 && line[len(line)-1] != 10 || ends == 0 && i < len(lines)-1 {
			t.Errorf("of %.200q the line %d is %.200q", s, i, line)
		}
	}
	if got := Join(lines...); got != s {
		t.Errorf("joined: %.200q, want %.200q", got, s)
	}
}

// The chapter's examples.
func TestExamples(t *testing.T) {
	wantTexts(t, "lines", Lines("a\x0a\x0ab"), "a\x0a", "\x0a", "b")
	wantRuns(t, Runs(4, 1, 2, 1), Run{1, 2}, Run{4, 4})
}

// P4.1: a text is cut behind each byte 10, and behind nothing else.
func TestLines(t *testing.T) {
	for _, c := range []struct {
		s    string
		want []string
	}{
		{"", nil},
		{"a", []string{"a"}},
		{"abc", []string{"abc"}},
		{"\n", []string{"\n"}},
		{"\n\n", []string{"\n", "\n"}},
		{"\n\n\n\n", []string{"\n", "\n", "\n", "\n"}},
		{"a\n", []string{"a\n"}},
		{"\na", []string{"\n", "a"}},
		{"\na\n", []string{"\n", "a\n"}},
		{"a\nb", []string{"a\n", "b"}},
		{"a\nb\n", []string{"a\n", "b\n"}},
		{"a\n\nb", []string{"a\n", "\n", "b"}},
		{"a\n\n", []string{"a\n", "\n"}},
		{"\n\na", []string{"\n", "\n", "a"}},
		{"one\ntwo\n\nfour", []string{"one\n", "two\n", "\n", "four"}},
		{"a\r\nb\rc", []string{"a\r\n", "b\rc"}},
		{"\r", []string{"\r"}},
		{"\n\r", []string{"\n", "\r"}},
		{" \n \n ", []string{" \n", " \n", " "}},
		{"a\x00\n\x00", []string{"a\x00\n", "\x00"}},
		{"a\vb\fc\u0085d\u2028e\u2029f", []string{"a\vb\fc\u0085d\u2028e\u2029f"}},
		{"\xff\n\xc3\n\xa9", []string{"\xff\n", "\xc3\n", "\xa9"}},
		{"é\né", []string{"é\n", "é"}},
		{"ਊ\u010a", []string{"ਊ\u010a"}},
		{"a\\nb", []string{"a\\nb"}},
	} {
		wantTexts(t, "lines", Lines(c.s), c.want...)
		wantLines(t, c.s)
	}
}

// P4.1: of all 256 bytes the 10 alone ends a line, wherever it stands.
func TestLinesOfEveryByte(t *testing.T) {
	var all []byte
	for b := range 256 {
		all = append(all, byte(b))
		one := string([]byte{byte(b)})
		want := 1
		if b == 10 {
			want = 2
		}
		if got := len(Lines("a" + one + "b")); got != want {
			t.Errorf("a, %d, b: %d lines", b, got)
		}
		for _, s := range []string{one, one + "a", "a" + one, one + one, "\n" + one, one + "\n", one + "\n" + one} {
			wantLines(t, s)
		}
	}
	wantTexts(t, "all bytes", Lines(string(all)), string(all[:11]), string(all[11:]))
	wantLines(t, strings.Repeat(string(all), 3))
}

// P4.1: all texts of few kinds of bytes.
func TestManyLines(t *testing.T) {
	texts := []string{""}
	for from := 0; len(texts) < 5000; from++ {
		for _, b := range []string{"\n", "a", "\r", "\x8a"} {
			texts = append(texts, texts[from]+b)
		}
	}
	for _, s := range texts {
		wantLines(t, s)
	}
	for seed := range int64(100) {
		r := rand.New(rand.NewSource(seed))
		bytes := make([]byte, r.Intn(300))
		for i := range bytes {
			bytes[i] = byte(r.Intn(20))
		}
		wantLines(t, string(bytes))
	}
}

// P4.1: there is no bound to a line or to their number.
func TestLongTexts(t *testing.T) {
	line := strings.Repeat("a", 1<<20)
	wantTexts(t, "a long line", Lines(line), line)
	wantTexts(t, "two long lines", Lines(line+"\n"+line), line+"\n", line)
	if got := Lines(strings.Repeat("\n", 1<<20)); len(got) != 1<<20 || Join(got...) != strings.Repeat("\n", 1<<20) {
		t.Errorf("many empty lines: %d", len(got))
	}
	if got := Lines(strings.Repeat("b\n", 1<<19) + "c"); len(got) != 1<<19+1 || got[1<<19] != "c" || got[1<<18] != "b\n" {
		t.Errorf("many lines: %d", len(got))
	}
}

// P4.1: Join of any texts, with nothing put between them, and none left out.
func TestJoin(t *testing.T) {
	for _, c := range []struct {
		lines []string
		want  string
	}{
		{nil, ""},
		{[]string{}, ""},
		{[]string{""}, ""},
		{[]string{"", "", ""}, ""},
		{[]string{"a"}, "a"},
		{[]string{"a\n"}, "a\n"},
		{[]string{"a", "b"}, "ab"},
		{[]string{"b", "a", "b", "b"}, "babb"},
		{[]string{"", "a", "", "b", ""}, "ab"},
		{[]string{"a\n", "b\n"}, "a\nb\n"},
		{[]string{"a\n", "", "\n", "b"}, "a\n\nb"},
		{[]string{"\n", "\n"}, "\n\n"},
		{[]string{"a\nb", "c\n\n"}, "a\nbc\n\n"},
		{[]string{"\xc3", "\xa9", "\x00", "\xff"}, "é\x00\xff"},
		{slices.Repeat([]string{"xy"}, 1000), strings.Repeat("xy", 1000)},
	} {
		if got := Join(c.lines...); got != c.want {
			t.Errorf("Join of %.200q: %.200q, want %.200q", c.lines, got, c.want)
		}
	}
	if got := Join(); got != "" {
		t.Errorf("Join of none: %q", got)
	}
}

// P4.2: as few runs as can be, rising, whatever the order of the numbers.
func TestRuns(t *testing.T) {
	for _, c := range []struct {
		list []int
		want []Run
	}{
		{nil, nil},
		{[]int{}, nil},
		{[]int{0}, []Run{{0, 0}}},
		{[]int{7}, []Run{{7, 7}}},
		{[]int{-7}, []Run{{-7, -7}}},
		{[]int{7, 7, 7, 7}, []Run{{7, 7}}},
		{[]int{1, 2, 3, 4, 5}, []Run{{1, 5}}},
		{[]int{5, 4, 3, 2, 1}, []Run{{1, 5}}},
		{[]int{3, 5, 1, 4, 2}, []Run{{1, 5}}},
		{[]int{1, 2}, []Run{{1, 2}}},
		{[]int{1, 3}, []Run{{1, 1}, {3, 3}}},
		{[]int{3, 1}, []Run{{1, 1}, {3, 3}}},
		{[]int{1, 3, 2}, []Run{{1, 3}}},
		{[]int{1, 1, 2, 2}, []Run{{1, 2}}},
		{[]int{2, 1, 2, 1, 4, 4, 6, 5, 9}, []Run{{1, 2}, {4, 6}, {9, 9}}},
		{[]int{1, 2, 4, 5, 7, 8}, []Run{{1, 2}, {4, 5}, {7, 8}}},
		{[]int{0, 2, 4, 6}, []Run{{0, 0}, {2, 2}, {4, 4}, {6, 6}}},
		{[]int{-1, 0, 1}, []Run{{-1, 1}}},
		{[]int{1, -1}, []Run{{-1, -1}, {1, 1}}},
		{[]int{-3, -5, -4, -9, -8}, []Run{{-9, -8}, {-5, -3}}},
		{[]int{10, 9, 100, 99, 2, 1}, []Run{{1, 2}, {9, 10}, {99, 100}}},
		{[]int{least}, []Run{{least, least}}},
		{[]int{most}, []Run{{most, most}}},
		{[]int{least, least}, []Run{{least, least}}},
		{[]int{most, most}, []Run{{most, most}}},
		{[]int{least, most}, []Run{{least, least}, {most, most}}},
		{[]int{most, least}, []Run{{least, least}, {most, most}}},
		{[]int{most, most - 1, least + 1, least}, []Run{{least, least + 1}, {most - 1, most}}},
		{[]int{most, most - 2, least + 2, least}, []Run{{least, least}, {least + 2, least + 2}, {most - 2, most - 2}, {most, most}}},
		{[]int{most, -1, least, most, 0, least}, []Run{{least, least}, {-1, 0}, {most, most}}},
		{[]int{1 << 31, 1<<31 - 1, 1<<32 + 1, 1 << 32, -1 << 31}, []Run{{-1 << 31, -1 << 31}, {1<<31 - 1, 1 << 31}, {1 << 32, 1<<32 + 1}}},
	} {
		wantRuns(t, Runs(c.list...), c.want...)
		turned := slices.Clone(c.list)
		slices.Reverse(turned)
		wantRuns(t, Runs(turned...), c.want...)
		wantRuns(t, Runs(slices.Concat(c.list, turned)...), c.want...)
	}
	wantRuns(t, Runs())
}

// P4.2: random numbers: a number is in a run if and only if the list has it, and two runs are never next to each other.
func TestRandomRuns(t *testing.T) {
	for seed := range int64(500) {
		r := rand.New(rand.NewSource(seed))
		wide := 1 + r.Intn(60)
		list := make([]int, r.Intn(40))
		for i := range list {
			list[i] = r.Intn(wide) - wide/2
		}
		runs := Runs(list...)
		for n := -wide - 2; n <= wide+2; n++ {
			if has := slices.Contains(list, n); In(n, runs...) != has {
				t.Fatalf("runs of %v: %v, asked for %d", list, runs, n)
			}
		}
		for i, run := range runs {
			if run.From > run.To || i > 0 && run.From < runs[i-1].To+2 {
				t.Fatalf("runs of %v: %v", list, runs)
			}
		}
	}
}

// P4.2: a long list.
func TestLongRuns(t *testing.T) {
	var whole, odd []int
	for i := range 1 << 17 {
		whole = append(whole, i*4097%(1<<17))
		odd = append(odd, 2*i+1)
	}
	wantRuns(t, Runs(whole...), Run{0, 1<<17 - 1})
	if got := Runs(odd...); len(got) != 1<<17 || got[1<<16] != (Run{1<<17 + 1, 1<<17 + 1}) {
		t.Errorf("odd numbers: %d runs", len(got))
	}
}

// P4.2: a run has the numbers from From to To, both in it.
func TestIn(t *testing.T) {
	for _, run := range []Run{{3, 7}, {-7, -3}, {-3, 7}, {0, 0}, {5, 5}, {-5, -5}, {most - 3, most - 1}, {least + 1, least + 3}} {
		wantIn(t, true, run.From, run)
		wantIn(t, true, run.To, run)
		wantIn(t, true, run.From+(run.To-run.From)/2, run)
		for _, n := range []int{run.From - 1, run.To + 1, least, most} {
			wantIn(t, false, n, run)
		}
	}
	wantIn(t, true, least, Run{least, least})
	wantIn(t, true, most, Run{most, most})
	for _, n := range []int{least, least + 1, -1, 0, 1, most - 1, most} {
		wantIn(t, true, n, Run{least, most})
		wantIn(t, n != least, n, Run{least + 1, most})
		wantIn(t, n != most, n, Run{least, most - 1})
	}
}

// P4.2: of no runs none has a number.
func TestInOfNone(t *testing.T) {
	for _, n := range []int{least, -1, 0, 1, most} {
		if In(n) || In(n, nil...) || In(n, []Run{}...) {
			t.Errorf("%d is in no run", n)
		}
	}
	wantIn(t, true, 0, Run{})
	wantIn(t, false, 1, Run{})
}

// P4.2: a run whose To is below its From has no number, and hides none of another run.
func TestInOfTurnedRuns(t *testing.T) {
	for _, run := range []Run{{1, 0}, {1, -1}, {7, 3}, {-3, -7}, {3, -3}, {most, least}, {most, most - 1}, {least + 1, least}, {0, least}, {most, 0}} {
		for _, n := range []int{run.From, run.To, run.From - 1, run.To + 1, 0, 5, least, most} {
			wantIn(t, false, n, run)
			wantIn(t, false, n, run, run)
			wantIn(t, true, n, run, Run{n, n})
			wantIn(t, true, n, Run{least, most}, run)
		}
	}
}

// P4.2: one of the runs is enough, in any order, where they share numbers, touch or lie one in the other.
func TestInOfManyRuns(t *testing.T) {
	runs := []Run{{9, 9}, {1, 3}, {2, 5}, {5, 6}, {20, 30}, {22, 24}, {22, 24}, {40, 38}, {-4, -2}}
	has := []int{9, 1, 2, 3, 4, 5, 6, 20, 21, 22, 23, 24, 25, 29, 30, -4, -3, -2}
	for seed := range int64(30) {
		mixed := slices.Clone(runs)
		rand.New(rand.NewSource(seed)).Shuffle(len(mixed), func(i, j int) { mixed[i], mixed[j] = mixed[j], mixed[i] })
		for n := -10; n < 50; n++ {
			wantIn(t, slices.Contains(has, n) || n > 24 && n < 30, n, mixed...)
		}
		wantIn(t, false, least, mixed...)
		wantIn(t, false, most, mixed...)
	}
}

// Rule 3: what is handed in is not changed, its spare room neither, and not kept.
func TestWhatIsHandedIn(t *testing.T) {
	numbers := []int{4, 1, 2, 1, 99, 3, 98}
	runs := []Run{{9, 9}, {1, 3}, {7, 5}, {0, 0}, {2, 2}}
	texts := []string{"b\n", "a", "", "spare", "more"}
	keptNumbers, keptRuns, keptTexts := slices.Clone(numbers), slices.Clone(runs), slices.Clone(texts)

	got := Runs(numbers[:4]...)
	in := In(3, runs[:3]...)
	joined := Join(texts[:3]...)
	if !slices.Equal(numbers, keptNumbers) || !slices.Equal(runs, keptRuns) || !slices.Equal(texts, keptTexts) {
		t.Error("handed in, and changed:", numbers, runs, texts)
	}

	clear(numbers)
	clear(runs)
	clear(texts)
	wantRuns(t, got, Run{1, 2}, Run{4, 4})
	if !in || joined != "b\na" {
		t.Errorf("In: %v, Join: %q", in, joined)
	}
}

// Rule 3: an answer is new memory: to write into it, or behind it, changes no other one.
func TestAnswersApart(t *testing.T) {
	const s = "a\nb\n\nc\n"
	lines, again := Lines(s), Lines(s)
	lines = append(lines, "behind")
	clear(lines)
	wantTexts(t, "the second", again, "a\n", "b\n", "\n", "c\n")
	wantTexts(t, "the third", Lines(s), again...)

	list := []int{4, 1, 2, 1}
	runs, same := Runs(list...), Runs(list...)
	runs = append(runs, Run{8, 8})
	clear(runs)
	wantRuns(t, same, Run{1, 2}, Run{4, 4})
	wantRuns(t, Runs(list...), same...)
}
