package cmd

import (
	"regexp"
	"slices"
	"strconv"
	"strings"
	"testing"
)

var dollars = regexp.MustCompile(`\$\d+`)
var braces = regexp.MustCompile(`\{[^}]*\}`)

// put writes what a $ and a number stand for: the commit of that number, from 1 on, in the order in which they were told.
func (w *world) put(s, ahead string) string {
	return dollars.ReplaceAllStringFunc(s, func(word string) string {
		n, _ := strconv.Atoi(word[1:])
		if n > len(w.ids) {
			return word
		}
		return ahead + w.ids[n-1]
	})
}

// want holds the answer to a line by hand: a $ and a number is a commit, what stands in { } is told rising.
func (w *world) want(answer string, words ...string) {
	w.t.Helper()
	asked := slices.Clone(words)
	for i := range asked {
		asked[i] = w.put(asked[i], "#")
	}
	got := w.do(asked...)
	want := braces.ReplaceAllStringFunc(w.put(answer, ""), func(list string) string {
		parts := strings.Fields(list[1 : len(list)-1])
		slices.Sort(parts)
		return strings.Join(parts, " ")
	})
	if got != want {
		w.t.Errorf("%q: answered %s, not %s", words, got, want)
	}
}

// answers does lines, and holds what is answered against what stands behind the =>.
func (w *world) answers(script string) *world {
	w.t.Helper()
	for line := range strings.SplitSeq(strings.TrimSpace(script), "\n") {
		ask, want, _ := strings.Cut(line, " => ")
		w.want(want, strings.Fields(ask)...)
	}
	return w
}

func TestExamples(t *testing.T) {
	newWorld(t).answers(`
file a x y => ok
commit main 1 => $1
index => ok
stat => commits 1 layers 1 covered yes
blame main a => 0-1:$1:a:0
next => waiting
fly => error 40
`)
}

// grown is a world with two sides, of which one moved a file, and their merge: $4 above $2 and $3 above $1.
func grown(t testing.TB) *world {
	t.Helper()
	return newWorld(t).answers(`
file f a b c => ok
commit main 1 => $1
file f a x c => ok
move f g => ok
commit side 2 main => $2
checkout main => ok
file f a b c d => ok
commit main 3 main => $3
file f a x c d => ok
commit main 4 main side => $4
`)
}

// few tells how many words must stand behind a command, and how many may; -1, if there may be any number.
func few(row []string) (least, most int) {
	for _, word := range row {
		switch {
		case strings.HasSuffix(word, ".."):
			return least, -1
		case strings.HasSuffix(word, "?"):
			most++
		default:
			least++
			most++
		}
	}
	return least, most
}

func TestTable(t *testing.T) {
	if len(rows()) != 27 {
		t.Error(len(rows()))
	}
}

func TestTooFewOrTooManyWords(t *testing.T) {
	w := grown(t)
	for command, row := range rows() {
		least, most := few(row)
		for _, word := range []string{"", "?", "main", "1", "f", "date", "-"} {
			words := []string{command}
			for count := range 8 {
				wrong := count < least || most >= 0 && count > most
				if got := w.do(words...); wrong != (got == "error 40") {
					t.Errorf("%q: answered %s", words, got)
				}
				words = append(words, word)
			}
		}
	}
}

// TestWordsThatAreWrong: each row with the least number of words that it takes, all of them wrong.
func TestWordsThatAreWrong(t *testing.T) {
	newWorld(t).answers(`
file ? => error 2
drop ? => error 5
move ? ? => error 5
commit ? ? => error 9
checkout ? => error 30
ref ? ? => error 30
tag ? ? => error 30
unref ? => error 2
index => ok
merge ? => error 9
unindex ? => error 9
cut ? ? => error 9
restart => ok
spoil ? ? ? => error 9
log ? ? => error 9
is ? ? => error 30
touching ? ? => error 2
simplify ? ? ? => error 9
blame ? ? => error 30
describe ? => error 30
rev ? => error 30
good ? => error 30
bad ? => error 30
skip ? => error 30
clear => ok
next => waiting
stat => commits 0 layers - covered yes
`)
}

// TestAheadOfAllElse: one word too few, or too many, among words that are right or wrong.
func TestAheadOfAllElse(t *testing.T) {
	grown(t).answers(`
file => error 40
drop => error 40
drop f g => error 40
drop q q => error 40
move f => error 40
move f h i => error 40
move q A => error 5
move q A A => error 40
commit => error 40
commit main => error 40
commit A => error 40
checkout => error 40
checkout main side => error 40
checkout nobody nobody => error 40
ref new => error 40
ref new main side => error 40
ref A nobody nobody => error 40
tag new => error 40
tag new main side => error 40
unref => error 40
unref main side => error 40
merge => error 40
merge 1 2 => error 40
merge x x => error 40
unindex => error 40
unindex 1 2 => error 40
cut => error 40
cut 1 => error 40
cut 1 2 3 => error 40
cut x => error 40
restart x => error 40
spoil chain 1 => error 40
spoil chain 1 2 3 => error 40
spoil objects x => error 40
log => error 40
log date => error 40
log x => error 40
log date main side main => error 40
log x nobody nobody nobody => error 40
is main => error 40
is main side main => error 40
is nobody => error 40
touching - => error 40
touching - main side => error 40
touching A => error 40
simplify full - => error 40
simplify x A => error 40
simplify full - main side main => error 40
blame main => error 40
blame main f f => error 40
blame nobody => error 40
describe => error 40
describe main side => error 40
describe nobody nobody => error 40
rev => error 40
good => error 40
good main side => error 40
bad => error 40
bad main side => error 40
skip => error 40
skip main side => error 40
clear main => error 40
next main => error 40
stat main => error 40
next => waiting
rev refs() => {$2 $4}
rev tags() => none
stat => commits 4 layers - covered no
`)
}

func TestNoCommand(t *testing.T) {
	w := grown(t)
	for _, command := range []string{"", "fly", "File", "FILE", "file ", " file", "files", "fil", "file\n", "stat ", "Stat", "commits", "error", "ok", "-", "main", "=>", "f", "\x00", "\xff", "staté", "rev main", "log\tdate", "drops", "open", "quit", "help"} {
		for count := range 4 {
			w.want("error 40", append([]string{command}, slices.Repeat([]string{"main"}, count)...)...)
		}
	}
	w.want("")
	w.want("", []string{}...)
}

func TestEmptyWords(t *testing.T) {
	w := grown(t)
	w.want("error 40", "")
	w.want("error 40", "", "")
	w.want("error 40", "", "stat")
	w.want("error 40", "stat", "")
	w.want("error 40", "next", "")
	w.want("error 40", "clear", "")
	w.want("error 40", "restart", "")
	w.want("error 2", "file", "")
	w.want("error 2", "file", "", "a")
	w.want("error 5", "drop", "")
	w.want("error 40", "drop", "f", "")
	w.want("error 2", "move", "f", "")
	w.want("error 5", "move", "", "f")
	w.want("error 9", "commit", "main", "")
	w.want("error 2", "commit", "", "1")
	w.want("error 31", "commit", "main", "1", "")
	w.want("error 31", "checkout", "")
	w.want("error 31", "ref", "a", "")
	w.want("error 2", "ref", "", "main")
	w.want("error 2", "tag", "", "main")
	w.want("error 2", "unref", "")
	w.want("error 31", "index", "")
	w.want("error 9", "merge", "")
	w.want("error 9", "unindex", "")
	w.want("error 9", "cut", "", "1")
	w.want("error 9", "cut", "1", "")
	w.want("error 5", "spoil", "", "0", "1")
	w.want("error 9", "spoil", "", "", "1")
	w.want("error 9", "log", "", "main")
	w.want("error 31", "log", "date", "")
	w.want("error 31", "log", "date", "main", "")
	w.want("error 31", "is", "", "main")
	w.want("error 2", "touching", "", "main")
	w.want("error 31", "touching", "-", "")
	w.want("error 9", "simplify", "", "-", "main")
	w.want("error 2", "simplify", "full", "", "main")
	w.want("error 31", "simplify", "full", "-", "main", "")
	w.want("error 5", "blame", "main", "")
	w.want("error 31", "rev", "")
	w.want("error 31", "rev", "", "")
	w.want("$4", "rev", "", "main", "", "")
	w.want("ok", "file", "e", "")
	w.want("ok", "file", "k", "", "x", "")
	w.want("$5", "commit", "main", "5", "main")
	w.want("0-0:$5:e:0", "blame", "main", "e")
	w.want("0-2:$5:k:0", "blame", "main", "k")
}

// TestWordsOfAnyBytes: a word is one, whatever stands in it.
func TestWordsOfAnyBytes(t *testing.T) {
	w := newWorld(t)
	w.want("ok", "file", "f", "a b", "c\nd", "\xff\x80é\x00", "\t", "a b")
	w.want("$1", "commit", "main", "1")
	// The second word has a line end in it: there are six lines.
	w.want("0-5:$1:f:0", "blame", "main", "f")
	w.want("ok", "file", "f", "d", "\xff\x80é\x00", "a", "a b", "x")
	w.want("$2", "commit", "main", "2", "main")
	w.want("0-1:$1:f:2 2-2:$2:f:2 3-3:$1:f:5 4-4:$2:f:4", "blame", "main", "f")
	w.want("error 2", "file", "f g", "a")
	w.want("error 2", "file", "f\n", "a")
	w.want("error 2", "file", "é", "a")
	w.want("error 2", "file", "f\xff", "a")
	w.want("error 5", "drop", "f ")
	w.want("error 2", "move", "f", "f f")
	w.want("error 9", "commit", "main", "1 ")
	w.want("error 9", "commit", "main", "1\n")
	w.want("error 2", "commit", "ma in", "1")
	w.want("error 2", "commit", "main\n", "1")
	w.want("error 2", "tag", "\x80", "main")
	w.want("ok", "ref", "first", "main ^")
	w.want("error 2", "ref", "fi rst", "main ^")
	w.want("$1", "rev", "main - \tmain & !first | first", "&", "all()", " ")
	w.want("error 30", "rev", "main\n")
	w.want("error 30", "rev", "main", "\xff")
	w.want("error 30", "checkout", "main\n")
	w.want("$2 $1", "log", "date", "main | first")
	w.want("$2", "log", "date", "first | main", "first & all()")
	w.want("error 9", "log", "date ", "main")
	w.want("error 9", "simplify", "full\n", "-", "main")
	w.want("error 2", "touching", "f, g", "main")
	w.want("error 2", "touching", " ", "main")
	w.want("error 2", "touching", "-\n", "main")
	w.want("error 5", "blame", "main", "f ")
	w.want("error 5", "blame", "main", "f\xff")
	w.want("error 9", "merge", " 1")
	w.want("error 5", "spoil", "objects ", "0", "1")
	w.want("yes", "is", "first ", " main")
}

// numberPlaces are lines with a number at the place of #, all else of which is right.
func numberPlaces() []string {
	return []string{"commit main #", "commit main # main", "merge #", "unindex #", "cut # 0", "cut 0 #", "spoil layer.1 # 0", "spoil layer.1 0 #"}
}

func TestNumbers(t *testing.T) {
	w := grown(t).answers("index => ok")
	for _, word := range []string{"", "x", "-1", "+1", "1x", "x1", "1.0", "1e1", "0x1", "1_0", "1,0", " 1", "1 ", "١", "½", "0000000000000000", "1000000000000000", "9223372036854775807", "9223372036854775808", "99999999999999999999", strings.Repeat("1", 999)} {
		for _, line := range numberPlaces() {
			words := strings.Split(line, " ")
			words[slices.Index(words, "#")] = word
			w.want("error 9", words...)
		}
	}
	w.answers(`
commit main 999999999999999 => error 3
commit main 000001099511627777 => error 9
commit main 01099511627777 => error 3
commit main 001099511627776 => $5
commit main 000000000000007 => $6
commit main 0 => $7
merge 999999999999999 => error 3
merge 000000000000000 => error 3
unindex 999999999999999 => error 3
unindex 0 => error 3
cut 999999999999999 999999999999999 => ok
spoil layer.1 999999999999999 1 => error 3
spoil layer.1 0 999999999999744 => ok
stat => commits 7 layers 4 covered no
unindex 000000000000001 => ok
stat => commits 7 layers - covered no
`)
	// 999999999999744 is 0 modulo 256, 999999999999999 isn't.
	w.answers(`
index => ok
spoil layer.1 0 999999999999999 => ok
stat => commits 7 layers - covered no
`)
}

// wrongSets are words that eval.Run takes not, with its errors.
func wrongSets() map[string]string {
	return map[string]string{
		"nobody":                              "error 5",
		"ref('v')":                            "error 5",
		"tag('main')":                         "error 5",
		"#0000000000000001":                   "error 5",
		"touching(all(),'A')":                 "error 2",
		"":                                    "error 31",
		"main|":                               "error 31",
		"(main":                               "error 31",
		"main side":                           "error 31",
		"-":                                   "error 31",
		"?":                                   "error 30",
		"Main":                                "error 30",
		"#1":                                  "error 30",
		"'main":                               "error 30",
		"fly()":                               "error 33",
		"all(main)":                           "error 34",
		"latest(main)":                        "error 34",
		"3":                                   "error 35",
		"count(all())":                        "error 35",
		"'main'":                              "error 35",
		"heads(main|3)":                       "error 35",
		strings.Repeat("!", 24) + "main":      "error 32",
		strings.Repeat("main|", 204) + "main": "error 32",
		strings.Repeat(" ", 1024) + "m":       "error 4",
		strings.Repeat("x", 1025):             "error 4",
		"union(" + strings.Repeat("all(),", 8) + "3)": "error 35",
	}
}

// setPlaces are lines with a SET, or a REV, at the place of #, all else of which is right.
func setPlaces() []string { return slices.Concat(revPlaces(), onlySetPlaces()) }

func onlySetPlaces() []string {
	return []string{"log date #", "log topo main #", "log date # main", "touching - #", "touching f #", "simplify full - #", "simplify merges f main #", "simplify default f # main", "rev #"}
}

func revPlaces() []string {
	return []string{"commit new 1 #", "commit new 1 main #", "commit new 1 main side #", "commit new 1 # main", "checkout #", "ref new #", "tag new #", "index #", "index main #", "index # main", "is # main", "is main #", "blame # f", "describe #", "good #", "bad #", "skip #"}
}

func TestNoSets(t *testing.T) {
	w := grown(t)
	for word, want := range wrongSets() {
		for _, line := range setPlaces() {
			words := strings.Split(line, " ")
			words[slices.Index(words, "#")] = word
			w.want(want, words...)
		}
	}
}

// TestNoRevs: a REV comes to just one commit.
func TestNoRevs(t *testing.T) {
	w := grown(t)
	for _, word := range []string{"none()", "all()", "refs()", "tags()", "main^", "main | side", "main - main", "side..main", "parents(main)", "latest(all(), 2)", "latest(all(), 0)", "main^3"} {
		for _, line := range revPlaces() {
			words := strings.Split(line, " ")
			words[slices.Index(words, "#")] = word
			w.want("error 34", words...)
		}
		for _, line := range onlySetPlaces() {
			words := strings.Split(line, " ")
			words[slices.Index(words, "#")] = word
			if got := w.do(words...); strings.HasPrefix(got, "error") {
				t.Errorf("%q: answered %s", words, got)
			}
		}
	}
	for _, word := range []string{"main", " main ", "main|main", "(main)", "main & all()", "latest(all(), 1)", "heads(all())", "#$4", "ref('main')", "main & merges(all())"} {
		for _, line := range revPlaces() {
			words := strings.Split(line, " ")
			words[slices.Index(words, "#")] = w.put(strings.Replace(word, "#$", "$", 1), "#")
			got := w.do(words...)
			// What is there already, or isn't: the REV was taken.
			if strings.HasPrefix(got, "error") && got != "error 6" && got != "error 20" {
				t.Errorf("%q: answered %s", words, got)
			}
		}
	}
}

// TestErrorsInOrder: two and three errors in a row: of the words from the left, and then those that are told.
func TestErrorsInOrder(t *testing.T) {
	grown(t).answers(`
tag v side => ok
index => ok
move q A => error 5
move f A => error 2
move A B => error 5
commit A x => error 9
commit A x nobody => error 9
commit A 1 nobody => error 5
commit A 1 all() ? => error 34
commit A 1 ? all() => error 30
commit A 1 main nobody all() => error 5
commit A 1 main side 3 nobody => error 35
commit A 1 main => error 2
commit A 9999999999999 main main => error 2
commit a 9999999999999 main main => error 6
commit a 9999999999999 main side => error 3
commit a x main main => error 9
commit a x ? => error 9
ref A nobody => error 5
ref A all() => error 34
ref A main => error 2
tag A ? => error 30
tag v none() => error 34
tag v nobody => error 5
tag A main => error 2
tag v main => error 6
unref A => error 2
unref v => error 5
index nobody ? => error 5
index ? nobody => error 30
index main all() 3 => error 34
cut x -1 => error 9
cut 0 -1 => error 9
cut -1 0 => error 9
spoil objects x 1 => error 9
spoil objects 0 x => error 9
spoil objects 999 1 => error 2
spoil nothing x y => error 9
spoil nothing 0 y => error 9
spoil nothing 999999 256 => error 5
spoil Nothing 0 0 => error 5
spoil layer.1 999999 x => error 9
spoil layer.1 999999 0 => error 3
log x nobody => error 9
log x ? nobody => error 9
log date nobody ? => error 5
log date ? nobody => error 30
log topo main 3 => error 35
is nobody ? => error 5
is ? nobody => error 30
is all() none() => error 34
is main fly() => error 33
touching A nobody => error 2
touching A ? => error 2
touching f,A ? => error 2
touching f nobody => error 5
simplify x A nobody => error 9
simplify x A nobody ? => error 9
simplify x - main => error 9
simplify full A nobody => error 2
simplify full A nobody ? => error 2
simplify full - nobody ? => error 5
simplify full - ? nobody => error 30
simplify full - main ? => error 30
blame nobody A => error 5
blame all() q => error 34
blame ? q => error 30
blame main A => error 5
blame main q => error 5
stat => commits 4 layers 4 covered yes
rev refs() => {$2 $4}
rev tags() => $2
`)
}

func TestTooManyPathsFirst(t *testing.T) {
	w := grown(t)
	many := strings.Repeat("f,", 16)
	for _, command := range [][]string{{"touching"}, {"simplify", "full"}} {
		ask := func(paths, set string) []string { return append(slices.Clone(command), paths, set) }
		w.want("error 4", ask(many+"f", "main")...)
		w.want("error 4", ask(many+"A", "main")...)
		w.want("error 4", ask(many, "nobody")...)
		w.want("error 4", ask(many+"f", "nobody")...)
		w.want("error 2", ask(strings.Repeat("f,", 15), "nobody")...)
		w.want("error 5", ask(strings.Repeat("f,", 15)+"f", "nobody")...)
		w.want("error 9", "simplify", "x", many+"f", "nobody")
	}
	w.want("$4 $3 $2 $1", "touching", strings.Repeat("f,", 15)+"f", "all()")
}

func TestPaths(t *testing.T) {
	w := newWorld(t).answers(`
file a 1 => ok
file d/x 1 => ok
commit main 1 => $1
file d/y 1 => ok
commit main 2 main => $2
file b 1 => ok
commit main 3 main => $3
drop a => ok
commit main 4 main => $4
commit main 5 main => $5
`)
	for paths, want := range map[string]string{
		"-":         "$4 $3 $2 $1",
		"a":         "$4 $1",
		"b":         "$3",
		"d":         "$2 $1",
		"d/x":       "$1",
		"d/y":       "$2",
		"a,b":       "$4 $3 $1",
		"b,a":       "$4 $3 $1",
		"d,d/x":     "$2 $1",
		"d/x,d":     "$2 $1",
		"b,d/y,b":   "$3 $2",
		"q":         "none",
		"d/x/y":     "none",
		"a,q,q/r/s": "$4 $1",
	} {
		w.want(want, "touching", paths, "main")
	}
	for _, paths := range []string{"", ",", "a,", ",a", "a,,b", "-,a", "a,-", "--", "A", "a,B", "a b", "a/", "/a", "a//b", "a,b/", "é", "a;b", strings.Repeat("a", 17), "a/a/a/a/a/a/a"} {
		w.want("error 2", "touching", paths, "main")
		w.want("error 2", "simplify", "full", paths, "main")
	}
	w.answers(`
simplify full a main => {$1< $4<$1}
simplify full a,b main => {$1< $3<$1 $4<$3}
simplify full d main => {$1< $2<$1}
simplify full - main => {$1< $2<$1 $3<$2 $4<$3}
simplify full q main => none
`)
}
