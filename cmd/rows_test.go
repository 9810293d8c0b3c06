package cmd

import (
	"fmt"
	"slices"
	"strings"
	"testing"
)

func TestFile(t *testing.T) {
	newWorld(t).answers(`
file none => ok
file one x => ok
file some x y x => ok
file d/e/f.g_1 x => ok
commit main 1 => $1
blame main none => none
blame main one => 0-0:$1:one:0
blame main some => 0-2:$1:some:0
blame main d/e/f.g_1 => 0-0:$1:d/e/f.g_1:0
file some y x => ok
file one => ok
commit main 2 main => $2
blame main some => 0-1:$1:some:1
blame main one => none
file some => ok
file some z => ok
file A z => error 2
file - z => error 2
file a/ => error 2
file abcdefghijklmnop z => ok
file abcdefghijklmnopq z => error 2
file a/b/c/d/e/f z => ok
file a/b/c/d/e/f/g z => error 2
commit main 3 main => $3
blame main some => 0-0:$3:some:0
`)
}

func TestDropAndMove(t *testing.T) {
	newWorld(t).answers(`
drop f => error 5
move f g => error 5
move f f => error 5
move f A => error 5
file f x y => ok
file g z => ok
file k k => ok
commit main 1 => $1
move f f => ok
move g h => ok
move g h => error 5
drop g => error 5
move f h => ok
move f A => error 5
move h A => error 2
move h h/ => error 2
drop k => ok
drop k => error 5
drop A => error 5
move k k => error 5
commit main 2 main => $2
blame main h => 0-1:$1:f:0
blame main f => error 5
blame main g => error 5
blame main k => error 5
move h f => ok
file g z => ok
file k k => ok
commit same 1 => $3
`)
}

// TestMovedToItself: nothing changes, so that the same commit is told.
func TestMovedToItself(t *testing.T) {
	w := newWorld(t).answers(`
file f x => ok
file g y => ok
commit main 1 => $1
move f f => ok
commit main 1 => $1
move f h => ok
move h f => ok
commit main 1 => $1
drop g => ok
file g y => ok
commit main 1 => $1
`)
	w.want("$1", "rev", "all()")
}

func TestCommit(t *testing.T) {
	newWorld(t).answers(`
commit main 1 => $1
rev main => $1
rev all() => $1
commit main 1 => $1
stat => commits 1 layers - covered no
commit other 1 => $3
rev all() => {$1 $3}
file f x => ok
commit main 5 main => $4
rev main => $4
rev main^ => $1
commit main 5 main => $5
rev main^ => $4
commit both 6 main other => $6
rev both^1 => $5
rev both^2 => $3
commit both 6 other main => $7
rev both^1 => $3
rev both^2 => $5
commit twice 6 main main => error 6
commit twice 6 main both^2 => error 6
commit twice 6 main other main => error 6
rev twice => error 5
commit a/b 1 => error 2
commit A 1 => error 2
commit - 1 => error 2
commit abcdefghijklmnopq 1 => error 2
commit abcdefghijklmnop 1 => $8
rev abcdefghijklmnop => $8
commit 9.x 1 => $9
rev ref('9.x') => $9
commit main 1099511627776 => $10
commit main 1099511627777 => error 3
rev main => $10
`)
}

// TestCommitOfTheSame: one that is there already is told again, and its ref set again.
func TestCommitOfTheSame(t *testing.T) {
	w := newWorld(t).answers(`
file f x => ok
commit main 1 => $1
file f y => ok
commit main 2 main => $2
file f x => ok
commit main 1 => $1
rev main => $1
rev all() => {$1 $2}
unref main => ok
commit main 1 => $1
rev main => $1
`)
	// The same work tree, date and parents, another name: another commit.
	w.want("$5", "commit", "side", "1")
	if w.ids[4] == w.ids[0] {
		t.Error(w.ids)
	}
}

func TestManyParents(t *testing.T) {
	w := newWorld(t)
	var refs []string
	for n := range 9 {
		refs = append(refs, fmt.Sprintf("r%d", n))
		w.do("commit", refs[n], fmt.Sprint(n))
	}
	w.want("error 4", append([]string{"commit", "main", "1"}, refs...)...)
	w.want("error 4", append([]string{"commit", "main", "1", "r0"}, refs[:8]...)...)
	w.want("error 6", append([]string{"commit", "main", "1", "r1"}, refs[:7]...)...)
	w.want("$10", append([]string{"commit", "main", "1"}, refs[:8]...)...)
	w.want("{$1 $2 $3 $4 $5 $6 $7 $8}", "rev", "main^")
	w.want("$8", "rev", "main^8")
}

// TestWorkTreesThatAreNone: what can't be put is told by commit alone, and stays in the work tree.
func TestWorkTreesThatAreNone(t *testing.T) {
	w := newWorld(t)
	w.want("ok", "file", "f", strings.Repeat("x", 4095))
	w.want("$1", "commit", "main", "1")
	w.want("ok", "file", "f", strings.Repeat("x", 4096))
	w.want("error 4", "commit", "main", "2")
	w.want("ok", "file", "f", strings.Repeat("x", 2000), strings.Repeat("y", 2094))
	w.want("$2", "commit", "main", "2")
	w.want("ok", "file", "f", strings.Repeat("x", 2000), strings.Repeat("y", 2095))
	w.want("error 4", "commit", "main", "2")
	w.answers(`
rev main => $2
file f x => ok
file f/g x => ok
commit main 3 => error 12
move f f/h => ok
commit main 3 => $3
file f x => ok
commit main 4 => error 12
drop f => ok
`)
	for n := range 62 {
		w.do("file", fmt.Sprint("n", n))
	}
	w.want("$4", "commit", "main", "4")
	w.want("ok", "file", "n62")
	w.want("error 4", "commit", "main", "5")
	// Of too many files one of which is under another one, too.
	w.want("ok", "file", "n0/x")
	w.want("error 4", "commit", "main", "5")
	w.want("ok", "drop", "n62")
	w.want("ok", "drop", "n1")
	w.want("error 12", "commit", "main", "5")
	// The blobs come first: f.g has too many bytes.
	w.want("ok", "file", "f.g", strings.Repeat("x", 4096))
	w.want("error 4", "commit", "main", "5")
	w.want("ok", "checkout", "main")
	w.want("$5", "commit", "main", "5")
	w.want("none", "touching", "-", "none()")
	if len(w.c.work) != 64 {
		t.Error(len(w.c.work))
	}
}

// TestWhatACommitPuts: what was put ahead of an error is there, so that less is written later.
func TestWhatACommitPuts(t *testing.T) {
	w := newWorld(t)
	writes := func(want int, answer string, words ...string) {
		t.Helper()
		was := w.c.disk.Writes()
		w.want(answer, words...)
		if got := w.c.disk.Writes() - was; got != want {
			t.Errorf("%q: %d raw writes, not %d", words, got, want)
		}
	}
	writes(0, "ok", "file", "a", "x")
	writes(0, "ok", "file", "b", "y")
	writes(0, "error 2", "commit", "A", "1")
	writes(0, "error 5", "commit", "main", "1", "nobody")
	writes(0, "error 9", "commit", "main", "x")
	writes(3, "error 3", "commit", "main", "9999999999999")
	writes(2, "$1", "commit", "main", "1")
	writes(1, "$1", "commit", "main", "1")
	writes(2, "$3", "commit", "main", "2")
	writes(0, "ok", "file", "c", strings.Repeat("x", 4096))
	writes(0, "ok", "file", "bb", "z")
	writes(0, "ok", "file", "d", "w")
	// Of c there is no blob: bb is put ahead of it, d isn't.
	writes(1, "error 4", "commit", "main", "3")
	writes(0, "ok", "drop", "c")
	writes(4, "$4", "commit", "main", "3")
	writes(0, "ok", "file", "d/e", "x")
	writes(0, "error 12", "commit", "main", "3")
}

func TestCheckout(t *testing.T) {
	newWorld(t).answers(`
commit none 1 => $1
file f x y => ok
file d/g z => ok
commit main 2 => $2
checkout none => ok
drop f => error 5
drop d/g => error 5
commit none 1 => $1
checkout main => ok
file more x => ok
checkout main => ok
drop more => error 5
commit main 2 => $2
drop d/g => ok
checkout nobody => error 5
checkout all() => error 34
drop d/g => error 5
drop f => ok
checkout main | none => error 40
checkout main^ => error 34
file f other => ok
checkout main => ok
commit main 2 => $2
checkout #$1 => error 30
`)
}

// TestCheckoutAndChange: what was checked out is the console's own.
func TestCheckoutAndChange(t *testing.T) {
	newWorld(t).answers(`
file f x y => ok
commit main 1 => $1
checkout main => ok
file f x z => ok
move f g => ok
commit side 2 main => $2
checkout main => ok
commit main 1 => $1
blame main f => 0-1:$1:f:0
blame side g => 0-1:$2:g:0
checkout side => ok
move g f => ok
commit back 3 side => $4
blame back f => 0-1:$2:g:0
`)
}

func TestRefAndTag(t *testing.T) {
	grown(t).answers(`
ref new main^1 => ok
rev new => $3
ref new side => ok
rev new => $2
ref A main => error 2
ref a/b main => error 2
ref abcdefghijklmnopq main => error 2
ref new nobody => error 5
rev new => $2
tag v new => ok
rev v => $2
tag v new => error 6
tag v main => error 6
tag A main => error 2
tag w nobody => error 5
rev tags() => $2
unref new => ok
rev new => error 5
unref new => error 5
unref v => error 5
unref A => error 2
rev v => $2
ref v main => ok
rev v => $4
rev tag('v') => $2
unref v => ok
rev v => $2
unref main => ok
unref side => ok
rev refs() => none
rev all() => {$1 $2 $3 $4}
ref main heads(all()) => ok
rev main => $4
`)
}

func TestIndex(t *testing.T) {
	newWorld(t).answers(`
index => ok
stat => commits 0 layers - covered yes
commit a 1 => $1
commit b 2 a => $2
commit c 3 b => $3
commit d 4 a => $4
index b => ok
stat => commits 4 layers 2 covered no
index b => ok
index a b a => ok
stat => commits 4 layers 2 covered no
index nobody => error 5
index c nobody => error 5
index all() => error 34
index c|d => error 34
stat => commits 4 layers 2 covered no
index d b => ok
stat => commits 4 layers 2,1 covered no
index => ok
stat => commits 4 layers 2,1,1 covered yes
index => ok
index c d => ok
stat => commits 4 layers 2,1,1 covered yes
commit e 5 c => $5
stat => commits 5 layers 2,1,1 covered no
index => ok
commit f 6 c d => $6
index e => ok
index f => ok
stat => commits 6 layers 2,1,1,1,1 covered yes
commit g 7 => $7
index => ok
commit h 8 => $8
stat => commits 8 layers 2,1,1,1,1,1 covered no
index => error 16
index h => error 16
index g => ok
index h nobody => error 5
stat => commits 8 layers 2,1,1,1,1,1 covered no
merge 2 => ok
stat => commits 8 layers 2,1,1,1,2 covered no
index h => ok
stat => commits 8 layers 2,1,1,1,2,1 covered yes
`)
}

// layered is a world with three layers, of 1, 2 and 3 commits.
func layered(t testing.TB) *world {
	return newWorld(t).answers(`
commit a 1 => $1
index => ok
commit b 2 a => $2
commit b 3 b => $3
index => ok
commit c 4 a => $4
commit c 5 c => $5
commit d 6 c b => $6
index => ok
stat => commits 6 layers 1,2,3 covered yes
`)
}

func TestMerge(t *testing.T) {
	layered(t).answers(`
merge 0 => error 3
merge 1 => error 3
merge 4 => error 3
merge x => error 9
stat => commits 6 layers 1,2,3 covered yes
merge 2 => ok
stat => commits 6 layers 1,5 covered yes
merge 3 => error 3
merge 2 => ok
stat => commits 6 layers 6 covered yes
merge 2 => error 3
merge 1 => error 3
`)
	layered(t).answers(`
merge 3 => ok
stat => commits 6 layers 6 covered yes
`)
	newWorld(t).answers(`
merge 0 => error 3
merge 1 => error 3
merge 2 => error 3
`)
}

func TestUnindex(t *testing.T) {
	layered(t).answers(`
unindex 0 => error 3
unindex 4 => error 3
unindex x => error 9
stat => commits 6 layers 1,2,3 covered yes
unindex 1 => ok
stat => commits 6 layers 1,2 covered no
unindex 3 => error 3
unindex 2 => ok
stat => commits 6 layers - covered no
unindex 1 => error 3
unindex 0 => error 3
index => ok
stat => commits 6 layers 6 covered yes
`)
	layered(t).answers(`
unindex 3 => ok
stat => commits 6 layers - covered no
`)
}

func TestStat(t *testing.T) {
	newWorld(t).answers(`
stat => commits 0 layers - covered yes
commit main 1 => $1
stat => commits 1 layers - covered no
index => ok
stat => commits 1 layers 1 covered yes
commit main 2 main => $2
commit main 3 main => $3
stat => commits 3 layers 1 covered no
index main^ => ok
stat => commits 3 layers 1,1 covered no
index => ok
stat => commits 3 layers 1,1,1 covered yes
unref main => ok
stat => commits 3 layers 1,1,1 covered yes
`)
}

// TestManyRows: sizes of more digits than one.
func TestManyRows(t *testing.T) {
	w := newWorld(t)
	w.do("commit", "main", "1")
	for n := range 11 {
		w.do("commit", "main", fmt.Sprint(n+2), "main")
	}
	w.want("ok", "index")
	for n := range 10 {
		w.do("commit", "main", fmt.Sprint(n+20), "main")
	}
	w.want("ok", "index")
	w.want("commits 22 layers 12,10 covered yes", "stat")
}

func TestCut(t *testing.T) {
	newWorld(t).answers(`
cut 0 0 => ok
stat => commits 0 layers - covered yes
file f x => ok
commit main 1 => error 8
stat => commits 0 layers - covered yes
cut 0 0 => error 8
cut 9 9 => error 8
cut x 9 => error 9
commit main 1 => error 8
drop f => ok
restart => ok
commit main 1 => $1
file f x => ok
cut 1 0 => ok
cut 3 999 => ok
commit main 2 main => error 8
rev main => $1
stat => commits 2 layers - covered no
log date all() - main => error 40
ref main main => error 8
tag v main => error 8
tag A main => error 2
unref main => error 8
unref nobody => error 5
index => error 8
merge 2 => error 3
unindex 1 => error 3
good main => error 8
bad main => error 8
skip main => error 8
clear => ok
next => waiting
drop f => ok
file g y => ok
checkout main => ok
move f g => error 5
rev main => $1
is main main => yes
describe main => $1
touching - main => none
restart => ok
stat => commits 2 layers - covered no
rev main^ => $1
tag v main => ok
describe main => v
`)
}

// TestCutOfACommit: its five raw writes, one by one.
func TestCutOfACommit(t *testing.T) {
	for keep := range 100 {
		for after := range 6 {
			w := newWorld(t)
			w.answers(`
commit main 1 => $1
file a x => ok
file b y => ok
`)
			w.want("ok", "cut", fmt.Sprint(after), fmt.Sprint(keep))
			answer, commits, ref := "error 8", 1, "$1"
			switch after {
			case 4:
				// The ref can't be set, but the commit is there.
				commits = 2
			case 5:
				answer, commits, ref = "$2", 2, "$2"
			}
			w.want(answer, "commit", "main", "2", "main")
			w.want(fmt.Sprintf("commits %d layers - covered no", commits), "stat")
			w.want(ref, "rev", "main")
			w.want("ok", "restart")
			// All that the disk was to lay of a frame is laid, if keep is as much.
			if after == 3 && keep > 90 {
				commits = 2
			}
			if after == 4 && keep > 40 {
				ref = w.do("rev", "all() - main")
			}
			if after < 3 || after == 5 || keep < 10 || keep > 90 {
				w.want(fmt.Sprintf("commits %d layers - covered no", commits), "stat")
			}
			if after != 4 || keep < 10 {
				w.want(ref, "rev", "main")
			}
			// The work tree is as it was.
			if got := w.do("commit", "main", "2", "#"+w.ids[0]); len(got) != 16 {
				t.Fatal(after, keep, got)
			}
			w.want("0-0:$2:a:0", "blame", "main", "a")
			w.want("0-0:$2:b:0", "blame", "main", "b")
		}
	}
}

// TestCommitWithoutItsRef: a ref can't be set for the disk's sake; its commit is there all the same, behind the restart, too.
func TestCommitWithoutItsRef(t *testing.T) {
	w := newWorld(t).answers(`
commit main 1 => $1
file f x => ok
cut 3 0 => ok
commit main 2 main => error 8
rev main => $1
stat => commits 2 layers - covered no
`)
	id := w.do("rev", "all()-main")
	w.want("0-0:"+id+":f:0", "blame", "#"+id, "f")
	w.want("$1", "rev", "parents(#"+id+")")
	w.want("ok", "restart")
	w.want("commits 2 layers - covered no", "stat")
	w.want("$1", "rev", "main")
}

// TestCutOfLayers: the raw writes of index, merge and unindex, one by one.
func TestCutOfLayers(t *testing.T) {
	for _, row := range []struct {
		line string
		// The layers behind so many raw writes that were done: as they are told, and as they are opened anew.
		told, anew []string
	}{
		{"index", []string{"1,2,3", "1,2,3", "1,2,3", "1,2,3,1"}, []string{"1,2,3", "1,2,3", "1,2,3", "1,2,3,1"}},
		{"merge 2", []string{"1,2,3", "1,2,3", "1,2,3", "1,5", "1,5", "1,5"}, []string{"1,2,3", "1,2,3", "1,2,3", "1,5", "1,5", "1,5"}},
		{"merge 3", []string{"1,2,3", "1,2,3", "1,2,3", "6", "6", "6", "6"}, []string{"1,2,3", "1,2,3", "1,2,3", "6", "6", "6", "6"}},
		{"unindex 1", []string{"1,2,3", "1,2,3", "1,2", "1,2"}, []string{"1,2,3", "1,2,3", "1,2", "1,2"}},
		{"unindex 2", []string{"1,2,3", "1,2,3", "1", "1", "1"}, []string{"1,2,3", "1,2,3", "1", "1", "1"}},
		{"unindex 3", []string{"1,2,3", "-", "-", "-", "-"}, []string{"1,2,3", "-", "-", "-", "-"}},
	} {
		for after, told := range row.told {
			for _, keep := range []int{0, 1, 20, 21, 60, 999999} {
				w := layered(t).answers("commit e 7 d => $7")
				w.want("ok", "cut", fmt.Sprint(after), fmt.Sprint(keep))
				answer := "error 8"
				if after == len(row.told)-1 {
					answer = "ok"
				}
				w.want(answer, strings.Fields(row.line)...)
				yes := map[bool]string{true: "yes", false: "no"}[told == "1,2,3,1"]
				w.want("commits 7 layers "+told+" covered "+yes, "stat")
				w.want("yes", "is", "a", "e")
				w.want("ok", "restart")
				w.want("commits 7 layers "+row.anew[after]+" covered "+yes, "stat")
				w.want("yes", "is", "a", "e")
				w.want("ok", "index")
				left := w.do("stat")
				if !strings.HasSuffix(left, "yes") {
					t.Error(row.line, after, keep, left)
				}
			}
		}
	}
}

// TestGraphAsItIs: the commands ask a graph of the chain as it is, though the call that made it so had an error.
func TestGraphAsItIs(t *testing.T) {
	layered(t).answers(`
cut 3 0 => ok
merge 3 => error 8
stat => commits 6 layers 6 covered yes
restart => ok
stat => commits 6 layers 6 covered yes
cut 1 0 => ok
unindex 1 => error 8
stat => commits 6 layers - covered no
`)
	layered(t).answers(`
cut 2 0 => ok
unindex 1 => error 8
stat => commits 6 layers 1,2 covered no
`)
}

// TestGraphOfTheBisection is the one when it was opened last.
func TestGraphOfTheBisection(t *testing.T) {
	w := newWorld(t).answers(`
commit main 1 => $1
index => ok
bad main => ok
`)
	covered := func(want bool) {
		t.Helper()
		if got := w.c.hunt.Covered(); got != want {
			t.Error(got)
		}
	}
	covered(false)
	w.want("ok", "restart")
	covered(true)
	w.answers(`
commit main 2 main => $2
index => ok
bad main => ok
next => offer $1
`)
	covered(false)
	w.want("ok", "spoil", "layer.2", "0", "0")
	covered(true)
	w.want("ok", "unindex", "2")
	covered(true)
	w.want("ok", "spoil", "bisect", "0", "0")
	covered(false)
	w.want("offer $1", "next")
}

func TestSpoil(t *testing.T) {
	layered(t).answers(`
spoil objects 0 1 => error 2
spoil objects 0 0 => error 2
spoil layer.4 0 1 => error 5
spoil layer 0 1 => error 5
spoil chain.new 0 1 => error 5
spoil bisect 0 1 => error 5
spoil A 0 1 => error 5
spoil layer.1 99999 1 => error 3
spoil layer.1 x 1 => error 9
spoil layer.1 0 x => error 9
stat => commits 6 layers 1,2,3 covered yes
spoil layer.1 0 0 => ok
spoil layer.2 3 256 => ok
spoil layer.3 3 512 => ok
spoil chain 3 256 => ok
stat => commits 6 layers 1,2,3 covered yes
spoil layer.3 0 255 => ok
stat => commits 6 layers 1,2 covered no
spoil layer.3 0 255 => error 5
index => ok
stat => commits 6 layers 1,2,3 covered yes
spoil layer.2 7 257 => ok
stat => commits 6 layers 1 covered no
spoil layer.3 0 1 => error 5
index => ok
stat => commits 6 layers 1,5 covered yes
spoil chain 5 128 => ok
stat => commits 6 layers - covered no
spoil chain 5 128 => error 5
spoil layer.1 0 0 => error 5
is a d => yes
index => ok
spoil layer.1 0 1 => ok
stat => commits 6 layers - covered no
`)
}

// TestSpoilAtTheEnds of a layer's file: its last byte, and the place behind it.
func TestSpoilAtTheEnds(t *testing.T) {
	w := layered(t)
	file, _ := w.c.disk.Read("layer.3")
	w.want("error 3", "spoil", "layer.3", fmt.Sprint(len(file)), "1")
	w.want("commits 6 layers 1,2,3 covered yes", "stat")
	w.want("ok", "spoil", "layer.3", fmt.Sprint(len(file)-1), "256")
	w.want("commits 6 layers 1,2,3 covered yes", "stat")
	w.want("ok", "spoil", "layer.3", fmt.Sprint(len(file)-1), "255")
	w.want("commits 6 layers 1,2 covered no", "stat")
}

// TestSpoilOfEachByte: whatever is turned, the chain is whole, and each answer as before.
func TestSpoilOfEachByte(t *testing.T) {
	w := layered(t)
	want := w.do("log", "topo", "all()")
	for _, name := range []string{"layer.1", "layer.2", "layer.3", "chain"} {
		for at := 0; ; at++ {
			w.do("unindex", "3")
			w.do("unindex", "2")
			w.do("unindex", "1")
			w.do("index", "a")
			w.do("index", "b")
			w.do("index")
			if got := w.do("spoil", name, fmt.Sprint(at), "4"); got != "ok" {
				if got != "error 3" || at < 10 {
					t.Error(name, at, got)
				}
				break
			}
			left := map[string]string{"layer.1": "-", "layer.2": "1", "layer.3": "1,2", "chain": "-"}[name]
			w.want("commits 6 layers "+left+" covered no", "stat")
			w.want(want, "log", "topo", "all()")
			w.lines = nil
		}
	}
}

// TestSpoilOfADeadDisk: it is done, and the power comes back.
func TestSpoilOfADeadDisk(t *testing.T) {
	layered(t).answers(`
cut 0 0 => ok
tag v a => error 8
spoil objects 0 1 => error 2
spoil layer.9 0 1 => error 5
tag v a => error 8
spoil layer.3 0 1 => ok
stat => commits 6 layers 1,2 covered no
tag v a => ok
cut 1 5 => ok
index => error 8
spoil chain.new 5 1 => error 3
tag w a => error 8
spoil chain.new 4 1 => ok
spoil chain.new 4 1 => error 5
spoil layer.3 0 1 => error 5
tag w a => ok
stat => commits 6 layers 1,2 covered no
cut 5 5 => ok
spoil layer.2 0 0 => ok
index => ok
tag x a => ok
tag y a => ok
`)
}

// TestRestartTakesTheCutBack: none waits behind it, in the opening neither.
func TestRestartTakesTheCutBack(t *testing.T) {
	layered(t).answers(`
cut 0 0 => ok
restart => ok
tag v a => ok
cut 1 7 => ok
index => ok
commit e 9 d => error 8
cut 0 0 => error 8
restart => ok
stat => commits 7 layers 1,2,3 covered no
cut 0 0 => ok
restart => ok
restart => ok
commit e 9 d => $7
cut 3 3 => ok
index => ok
cut 0 0 => ok
spoil layer.4 1 1 => ok
stat => commits 7 layers 1,2,3 covered no
tag w a => ok
`)
}

func TestBisection(t *testing.T) {
	newWorld(t).answers(`
next => waiting
commit main 1 => $1
commit main 2 main => $2
commit main 3 main => $3
commit main 4 main => $4
good nobody => error 5
bad none() => error 34
next => waiting
skip main^ => ok
next => waiting
bad main => ok
next => offer $2
good main => error 20
bad main => ok
good #00 => error 30
good main^^^ => ok
next => offer $2
skip main^^ => ok
next => stuck {$2 $3 $4}
restart => ok
next => stuck {$2 $3 $4}
good main^^ => ok
next => stuck {$3 $4}
bad main^^ => error 20
bad main^ => ok
next => found $3
spoil bisect 999 1 => error 3
next => found $3
spoil bisect 0 1 => ok
next => waiting
clear => ok
clear => ok
next => waiting
bad main => ok
next => offer $2
cut 0 5 => ok
good main^^ => error 8
next => offer $2
skip main^^ => error 8
clear => error 8
next => offer $2
restart => ok
next => offer $2
clear => ok
bad main^^^ => ok
next => found $1
`)
}

func TestLog(t *testing.T) {
	grown(t).answers(`
log date main => $4 $3 $2 $1
log topo main => $4 $3 $2 $1
log date all() => $4 $3 $2 $1
log date main^ => $3 $2 $1
log date side => $2 $1
log date main side => $4 $3
log date main none() => $4 $3 $2 $1
log date none() => none
log topo none() => none
log date none() none() => none
log date none() main => none
log date side main => none
log date main main => none
log topo main^ side => $3
log topo all() all() => none
log date main side^ => $4 $3 $2
log Date main => error 9
log TOPO main => error 9
log dat main => error 9
log 1 main => error 9
log both main => error 9
`)
	newWorld(t).answers(`
commit main 9 => $1
commit side 2 main => $2
commit main 5 main => $3
commit both 5 main side => $4
commit late 1 side => $5
log date both => $4 $3 $1 $2
log topo both => $4 $3 $2 $1
log date late => $5 $2 $1
log date both late => $4 $3
log date late side both => error 40
log date late|both => $4 $3 $1 $2 $5
log topo late|both => $4 $3 $5 $2 $1
log topo late|both main => $4 $5 $2
log date late|both main => $4 $2 $5
`)
}

func TestLogOfOneDate(t *testing.T) {
	w := newWorld(t)
	var refs []string
	for n := range 6 {
		refs = append(refs, fmt.Sprint("r", n))
		w.do("commit", refs[n], "7")
	}
	w.want("{$1 $2 $3 $4 $5 $6}", "log", "date", "all()")
	w.want("{$1 $2 $3 $4 $5 $6}", "log", "topo", "all()")
	w.want("{$1 $3 $4 $5 $6}", "log", "topo", "all()", refs[1])
}

func TestIs(t *testing.T) {
	grown(t).answers(`
is main main => yes
is side main => yes
is main side => no
is main^1^ main => yes
is main^1 side => no
is side main^1 => no
is side main^2 => yes
is side side => yes
`)
}

func TestTouching(t *testing.T) {
	grown(t).answers(`
touching - all() => $4 $3 $2 $1
touching f all() => $4 $3 $2 $1
touching g all() => $2
touching f,g side => $2 $1
touching g,f main^ => $3 $2 $1
touching q all() => none
touching - none() => none
touching f none() => none
`)
	newWorld(t).answers(`
commit main 1 => $1
touching - main => none
file f x => ok
commit main 2 main => $2
commit main 3 main => $3
drop f => ok
commit main 4 main => $4
touching - main => $4 $2
touching f main => $4 $2
touching f main^ => $2
touching f main^|main => $4 $2
touching f/x main => none
`)
}

func TestSimplify(t *testing.T) {
	w := newWorld(t).answers(`
file a 1 => ok
commit main 1 => $1
file b 1 => ok
commit x 2 main => $2
checkout main => ok
file a 2 => ok
commit y 3 main => $3
commit m 4 x y => $4
file a 3 => ok
commit m 5 m => $5
`)
	w.answers(`
simplify default a m^ => {$1< $3<$1}
simplify full a m^ => {$1< $3<$1}
simplify merges a m^ => {$1< $3<$1 $4<$1,$3}
simplify ancestry a m^ => none
simplify ancestry a m^ main => $3<
simplify default a m => {$1< $3<$1 $5<$3}
simplify merges a m => {$1< $3<$1 $4<$1,$3 $5<$4}
simplify full - m => {$1< $2<$1 $3<$1 $5<$2,$3}
simplify default - m => {$1< $3<$1 $5<$3}
simplify full b m => {$2<}
simplify full b m x => none
simplify merges b m x => $4<
simplify merges - m x => {$3< $4<$3 $5<$4}
simplify ancestry - m x => $5<
simplify ancestry a m y => $5<
simplify full a,b m => {$1< $2<$1 $3<$1 $5<$2,$3}
simplify default q m => none
simplify full q m => none
simplify merges q m => $4<
simplify ancestry q m main => none
simplify full - none() => none
simplify full - m none() => {$1< $2<$1 $3<$1 $5<$2,$3}
simplify full - m m => none
simplify default a all() => {$1< $3<$1 $5<$3}
simplify Full - m => error 9
simplify some - m => error 9
simplify 1 - m => error 9
`)
}

func TestBlame(t *testing.T) {
	w := grown(t).answers(`
blame main f => 0-0:$1:f:0 1-1:$4:f:1 2-2:$1:f:2 3-3:$3:f:3
blame main^1 f => 0-2:$1:f:0 3-3:$3:f:3
blame side g => 0-2:$2:g:0
blame side f => error 5
blame main g => error 5
blame main A => error 5
blame main f/g => error 5
blame none() f => error 34
file f => ok
commit main 5 main => $5
blame main f => none
file d/f a b => ok
file f b a => ok
commit main 6 main => $6
move d/f e => ok
commit main 7 main => $7
blame main e => 0-1:$6:d/f:0
blame main f => 0-1:$6:f:0
`)
	long := []string{"file", "long"}
	for n := range 256 {
		long = append(long, fmt.Sprint(n%7))
	}
	w.want("ok", long...)
	w.want("$8", "commit", "main", "8", "main")
	w.want("0-255:$8:long:0", "blame", "main", "long")
	w.want("ok", append(long, "x")...)
	w.want("$9", "commit", "main", "9", "main")
	w.want("error 4", "blame", "main", "long")
	w.want("0-255:$8:long:0", "blame", "main^", "long")
}

func TestDescribe(t *testing.T) {
	newWorld(t).answers(`
commit main 1 => $1
commit main 2 main => $2
commit side 3 main => $3
commit main 4 main => $4
commit both 5 main side => $5
describe main => $4
tag v1 main^^ => ok
describe main => v1-2-$4
describe main^^ => v1
describe both => v1-4-$5
tag v2 side => ok
describe both => v2-2-$5
describe side => v2
tag v3 main => ok
describe both => v3-2-$5
tag a3 main => ok
describe both => a3-2-$5
describe main => a3
describe main^ => v1-1-$2
describe nobody => error 5
describe all() => error 34
`)
}

func TestRev(t *testing.T) {
	w := grown(t)
	w.answers(`
rev main => $4
rev main - side => $4
rev main | side => {$2 $4}
rev heads( all() ) => $4
rev side .. main => {$3 $4}
rev none() => none
rev main - main => none
rev all() - main => {$1 $2 $3}
rev main side => error 31
rev 3 => error 35
rev main | => error 31
rev | => error 31
rev nobody => error 5
rev A => error 30
rev f ( main ) => error 33
rev merges(all()) => $4
rev touching(all(), 'g') => $2
rev latest(all(), 2) => {$3 $4}
`)
	w.want("{$2 $4}", "rev", "main |", "side")
	// A text has the blank between two words in it, just as a blank parts names.
	w.want("error 2", "rev", "touching(all(),'f", "g')")
	w.want("error 31", "rev", "ma", "in")
	w.want("error 30", "rev", "main.", ".side")
	w.want("{$3 $4}", "rev", "side..", "main")
	w.want("error 4", "rev", strings.Repeat("x", 1000), strings.Repeat("y", 24))
	w.want("error 30", "rev", strings.Repeat("x", 1000), strings.Repeat("y", 23))
	w.want("error 4", append([]string{"rev"}, slices.Repeat([]string{""}, 1026)...)...)
	w.want("error 31", append([]string{"rev"}, slices.Repeat([]string{""}, 1025)...)...)
}

func TestNone(t *testing.T) {
	newWorld(t).answers(`
log date none() => none
log topo all() => none
touching - all() => none
simplify full - all() => none
simplify default - none() none() => none
rev all() => none
rev refs() | tags() => none
file f => ok
commit main 1 => $1
blame main f => none
touching q main => none
simplify merges q main => none
simplify ancestry - main => none
log date main main => none
rev none() => none
describe main => $1
`)
}
