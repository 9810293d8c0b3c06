package cmd

import (
	"math"
	"strconv"
	"strings"

	"forebear/api"
	"forebear/bisect"
	"forebear/blame"
	"forebear/change"
	"forebear/describe"
	"forebear/reach"
	"forebear/simplify"
	"forebear/sum"
	"forebear/walk"
)

// Where an error is left out there is none: the words that were read come to commits alone.

// told is parts with a blank between each two.
func told(parts []string) string { return orElse("none", parts, blank) }

// orElse is parts with something between each two, or a word for none.
func orElse(none string, parts []string, between string) string {
	if len(parts) == 0 {
		return none
	}
	return strings.Join(parts, between)
}

func hexes(ids []api.ID) []string {
	var texts []string
	for _, id := range ids {
		texts = append(texts, sum.Hex(id))
	}
	return texts
}

func yesOrNo(so bool) string {
	if so {
		return "yes"
	}
	return "no"
}

func (j *job) log(words []string) (string, api.Errno) {
	order := j.order(words[0])
	tips := j.set(words[1])
	nots := j.setIn(words[2:])
	if j.fault != api.OK {
		return "", j.fault
	}
	w, _ := walk.New(j.Graph, order, tips, nots)
	return told(hexes(w.Take(math.MaxInt))), api.OK
}

func (j *job) is(words []string) (string, api.Errno) {
	a := j.rev(words[0])
	b := j.rev(words[1])
	if j.fault != api.OK {
		return "", j.fault
	}
	is, _ := reach.Ancestor(j.Graph, a, b)
	return yesOrNo(is), api.OK
}

func (j *job) touching(words []string) (string, api.Errno) {
	limit := j.paths(words[0])
	tips := j.set(words[1])
	if j.fault != api.OK {
		return "", j.fault
	}
	ids, _ := change.Touching(j.Graph, limit, tips...)
	return told(hexes(ids)), api.OK
}

func (j *job) simplify(words []string) (string, api.Errno) {
	mode := j.mode(words[0])
	limit := j.paths(words[1])
	tips := j.set(words[2])
	nots := j.setIn(words[3:])
	if j.fault != api.OK {
		return "", j.fault
	}
	kept, _ := simplify.Run(j.Graph, mode, limit, tips, nots)
	var parts []string
	for _, k := range kept {
		parts = append(parts, sum.Hex(k.ID)+"<"+strings.Join(hexes(k.Parents), ","))
	}
	return told(parts), api.OK
}

func (j *job) blame(words []string) (string, api.Errno) {
	id := j.rev(words[0])
	if j.fault != api.OK {
		return "", j.fault
	}
	lines, e := blame.Lines(j.Graph, id, words[1])
	if e != api.OK {
		return "", e
	}
	var parts []string
	for _, p := range blame.Parts(lines...) {
		run := strconv.Itoa(p.From) + "-" + strconv.Itoa(p.To)
		from := []string{run, sum.Hex(p.Line.Commit), p.Line.Path, strconv.Itoa(p.Line.Line)}
		parts = append(parts, strings.Join(from, ":"))
	}
	return told(parts), api.OK
}

func (j *job) describe(words []string) (string, api.Errno) {
	id := j.rev(words[0])
	if j.fault != api.OK {
		return "", j.fault
	}
	return describe.Text(j.Graph, id)
}

func (j *job) revisions(words []string) (string, api.Errno) {
	ids := j.set(strings.Join(words, blank))
	return told(hexes(ids)), j.fault
}

// next tells what a bisection asks for.
func (j *job) next() string {
	switch state, id := j.hunt.State(); state {
	case bisect.Offer:
		return "offer " + sum.Hex(id)
	case bisect.Found:
		return "found " + sum.Hex(id)
	case bisect.Stuck:
		return "stuck " + strings.Join(hexes(j.hunt.Candidates()), blank)
	}
	return "waiting"
}

// stat tells how many commits there are, and what the layers have of them.
func (j *job) stat() string {
	var sizes []string
	for _, size := range j.chain.Sizes() {
		sizes = append(sizes, strconv.Itoa(size))
	}
	return strings.Join([]string{
		"commits", strconv.Itoa(len(j.Commits())),
		"layers", orElse("-", sizes, ","),
		"covered", yesOrNo(j.Covered()),
	}, blank)
}
