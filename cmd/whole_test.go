package cmd

import (
	"fmt"
	"math/rand"
	"slices"
	"strings"
	"testing"
)

// The examples of the whole, one by one.

func TestALayerIsSpoilt(t *testing.T) {
	w := newWorld(t).answers(`
file f x => ok
commit main 1 => $1
index => ok
`)
	asks := []string{"log date main", "is main main", "touching f main", "simplify full f main", "blame main f", "describe main", "rev all()", "next"}
	var want []string
	for _, ask := range asks {
		want = append(want, w.do(strings.Fields(ask)...))
	}
	w.answers(`
spoil layer.1 9 4 => ok
stat => commits 1 layers - covered no
`)
	for i, ask := range asks {
		w.want(want[i], strings.Fields(ask)...)
	}
}

func TestThePowerGoesOffInAMerge(t *testing.T) {
	w := newWorld(t).answers(`
commit main 1 => $1
index => ok
commit main 2 main => $2
index => ok
cut 1 0 => ok
merge 2 => error 8
stat => commits 2 layers 1,1 covered yes
restart => ok
stat => commits 2 layers 1,1 covered yes
spoil layer.3 0 1 => error 5
`)
	if got := fmt.Sprint(w.c.disk.Names()); got != "[chain layer.1 layer.2 objects]" {
		t.Error(got)
	}
}

func TestABranchThatWasTheSame(t *testing.T) {
	newWorld(t).answers(`
file f x => ok
commit main 1 => $1
file g x => ok
commit side 2 main => $2
checkout main => ok
file f y => ok
commit main 3 main => $3
file g x => ok
commit main 4 main side => $4
simplify default f main => {$1< $3<$1}
simplify merges f main => {$1< $3<$1 $4<$3,$1}
simplify default g main => $2<
`)
}

func TestBlameGoesOnUnderTheOldName(t *testing.T) {
	newWorld(t).answers(`
file f a b => ok
commit main 1 => $1
move f g => ok
commit main 2 main => $2
file g a c b => ok
commit main 3 main => $3
blame main g => 0-0:$1:f:0 1-1:$3:g:1 2-2:$1:f:1
`)
}

func TestBadGoodSkip(t *testing.T) {
	newWorld(t).answers(`
commit main 1 => $1
commit main 2 main => $2
commit main 3 main => $3
commit main 4 main => $4
commit main 5 main => $5
bad main => ok
good main^^^^ => ok
next => offer $3
skip main^^ => ok
good main^^^ => ok
next => offer $4
skip main^ => ok
next => stuck {$3 $4 $5}
bad main^ => ok
next => stuck {$3 $4}
good main^^ => ok
next => found $4
`)
}

func TestTwoTagsAsNear(t *testing.T) {
	newWorld(t).answers(`
commit a 1 => $1
commit b 2 => $2
commit both 3 a b => $3
tag x a => ok
describe both => x-2-$3
tag z b => ok
describe both => z-2-$3
tag y b => ok
describe both => y-2-$3
`)
}

func TestWhatNobodyHasMerged(t *testing.T) {
	grown(t).answers(`
rev heads(all()) - main => none
checkout side => ok
file g z => ok
commit other 5 side => $5
rev heads(all()) - main => $5
commit more 6 main^1 => $6
rev heads(all()) - main => {$5 $6}
`)
}

// TestBisectionsThatAreCut go on to the same announcement, at whichever raw write the power goes off.
func TestBisectionsThatAreCut(t *testing.T) {
	for seed := range 20 {
		r := rand.New(rand.NewSource(int64(seed)))
		const n = 14
		begin := func() (c *Console, ids []string) {
			c = New()
			r := rand.New(rand.NewSource(int64(seed)))
			for k := range n {
				words := []string{"commit", fmt.Sprint("r", k), fmt.Sprint(k)}
				if k > 0 {
					for _, p := range r.Perm(k)[:min(k, 1+r.Intn(2))] {
						words = append(words, fmt.Sprint("r", p))
					}
				}
				ids = append(ids, c.Do(words...))
			}
			return c, ids
		}
		c, ids := begin()
		culprit := ids[r.Intn(n)]
		bad := ids[n-1]
		if c.Do("is", "#"+culprit, "#"+bad) == "no" {
			culprit = bad
		}
		// finish answers what is offered, up to the announcement; a line that is cut is asked again.
		finish := func(c *Console) string {
			do := func(words ...string) {
				if c.Do(words...) == "error 8" {
					c.Do("restart")
				}
			}
			for {
				state, offered, _ := strings.Cut(c.Do("next"), " ")
				switch state {
				case "found":
					return offered
				case "waiting":
					do("bad", "#"+bad)
				case "offer":
					answer := map[string]string{"yes": "bad", "no": "good"}[c.Do("is", "#"+culprit, "#"+offered)]
					do(answer, "#"+offered)
				default:
					t.Fatal(state)
				}
			}
		}
		was := c.disk.Writes()
		want := finish(c)
		writes := c.disk.Writes() - was
		for after := range writes {
			for _, keep := range []int{0, 3, 19, 99} {
				again, _ := begin()
				again.Do("cut", fmt.Sprint(after), fmt.Sprint(keep))
				if got := finish(again); got != want {
					t.Errorf("%d: %d %d: found %s, not %s", seed, after, keep, got, want)
				}
			}
		}
	}
}

// idsOf is the commits of the parts of a simplified history.
func idsOf(answer string) []string {
	var ids []string
	for _, part := range strings.Fields(answer) {
		if id, _, is := strings.Cut(part, "<"); is {
			ids = append(ids, id)
		}
	}
	return ids
}

// TestModes: what a mode keeps is among what the next one does, whatever layers there are.
func TestModes(t *testing.T) {
	kept := 0
	for seed := range 120 {
		c := New()
		m := &maker{Rand: rand.New(rand.NewSource(int64(seed))), odd: 0, often: often}
		for n := range 60 {
			words := m.line()
			if n < 4 {
				words = strings.Fields([]string{"commit a 1", "commit b 2 a", "commit c 2 a", "commit main 3 b c"}[n])
			}
			c.Do(words...)
		}
		c.Do("restart")
		for range 10 {
			behind := append([]string{m.paths(), m.set()}, m.perhaps(m.set())...)
			of := map[string][]string{}
			for _, mode := range []string{"default", "full", "merges", "ancestry"} {
				of[mode] = idsOf(c.Do(append([]string{"simplify", mode}, behind...)...))
			}
			for _, pair := range [][2]string{{"default", "full"}, {"ancestry", "full"}, {"full", "merges"}} {
				for _, id := range of[pair[0]] {
					kept++
					if !slices.Contains(of[pair[1]], id) {
						t.Errorf("%d: simplify %q: %s is kept by %s, and not by %s", seed, behind, id, pair[0], pair[1])
					}
				}
			}
		}
	}
	if kept < 1000 {
		t.Error(kept)
	}
}
