package cmd

import (
	"strconv"
	"strings"

	"forebear/api"
	"forebear/eval"
	"forebear/path"
	"forebear/simplify"
	"forebear/walk"
)

const (
	digits = "0123456789"
	// maxDigits is how many a number has at most.
	maxDigits = 15
)

// Words are read from the left, all of them, ahead of what they are read for. That isn't done if there is a fault.

// meet keeps an error, if it is the first one.
func (j *job) meet(e api.Errno) {
	if j.fault == api.OK {
		j.fault = e
	}
}

// set reads a SET.
func (j *job) set(word string) []api.ID {
	ids, _, e := eval.Run(j.Graph, word)
	j.meet(e)
	return ids
}

// setIn reads a SET that may be missing.
func (j *job) setIn(words []string) []api.ID {
	if len(words) == 0 {
		return nil
	}
	return j.set(words[0])
}

// rev reads a REV.
func (j *job) rev(word string) api.ID {
	ids := j.set(word)
	if len(ids) != 1 {
		// An error of the set was met ahead of this.
		j.meet(api.ErrCount)
		return 0
	}
	return ids[0]
}

func (j *job) revs(words []string) []api.ID {
	var ids []api.ID
	for _, word := range words {
		ids = append(ids, j.rev(word))
	}
	return ids
}

func (j *job) number(word string) int {
	if word == "" || len(word) > maxDigits || strings.Trim(word, digits) != "" {
		j.meet(api.ErrForm)
		return 0
	}
	n, _ := strconv.Atoi(word)
	return n
}

// paths reads a PATHS.
func (j *job) paths(word string) path.Set {
	if word == "-" {
		return path.Set{}
	}
	limit, e := path.Limit(strings.Split(word, ",")...)
	j.meet(e)
	return limit
}

func (j *job) order(word string) walk.Order {
	switch word {
	case "date":
		return walk.ByDate
	case "topo":
		return walk.ByTopo
	}
	j.meet(api.ErrForm)
	return 0
}

func (j *job) mode(word string) simplify.Mode {
	switch word {
	case "default":
		return simplify.Default
	case "full":
		return simplify.Full
	case "merges":
		return simplify.Merges
	case "ancestry":
		return simplify.Ancestry
	}
	j.meet(api.ErrForm)
	return 0
}

// withRev does something with the commit of a REV.
func (j *job) withRev(word string, act func(api.ID) api.Errno) api.Errno {
	id := j.rev(word)
	if j.fault != api.OK {
		return j.fault
	}
	return act(id)
}

// withNumbers does something with the numbers of some words.
func (j *job) withNumbers(words []string, act func([]int) api.Errno) api.Errno {
	var numbers []int
	for _, word := range words {
		numbers = append(numbers, j.number(word))
	}
	if j.fault != api.OK {
		return j.fault
	}
	return act(numbers)
}
