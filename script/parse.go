package script

import (
	"strings"

	"almshouse/api"
)

// The ranks of lines, in the order in which they stand. The faults of each tenant have a rank of their own.
const (
	rankNone   = 0 // ahead of the first line
	rankArray  = 1
	rankFaults = 2
	rankMarked = rankFaults + api.Tenants
	rankSteps  = rankMarked + 1
)

// parser is how far a script's text is read.
type parser struct {
	setup api.Setup
	steps []api.Step
	many  bool // there are more steps than may be
	rank  int  // the last line's
	names map[string]kind
}

// Parse reads a script's text.
func Parse(text string) (api.Setup, []api.Step, api.Errno) {
	p := parser{names: kinds()}
	for more := true; more; more = text != "" {
		line, rest, ended := strings.Cut(text, "\n")
		if !ended || !p.line(line) {
			return api.Setup{}, nil, api.ErrForm
		}
		text = rest
	}
	if p.many { // told only here: of lines that stand behind too many steps, one may be none
		return api.Setup{}, nil, api.ErrMany
	}
	return p.setup, p.steps, api.OK
}

// line takes a line, if it may stand here.
func (p *parser) line(line string) bool {
	name, rest, _ := strings.Cut(line, " ")
	switch name {
	case array:
		return p.comes(rankArray) && p.geometry(rest)
	case fault:
		return p.faults(rest)
	case marked:
		var ok bool
		p.setup.Marked, ok = listOf(rest)
		return p.comes(rankMarked) && ok
	}
	return p.step(line)
}

// comes asks whether a line of a rank may stand here: steps may stand behind each other, a setup's lines behind those of lower rank alone.
func (p *parser) comes(rank int) bool {
	if p.rank == rankNone && rank != rankArray {
		return false
	}
	if rank <= p.rank && rank != rankSteps {
		return false
	}
	p.rank = rank
	return true
}

// geometry takes the array's.
func (p *parser) geometry(words string) bool {
	numbers := sides(&p.setup.Geometry)
	return fill(numbers, strings.SplitN(words, " ", len(numbers)+1))
}

// faults takes a tenant's faults.
func (p *parser) faults(words string) bool {
	first, rest, _ := strings.Cut(words, " ")
	who, ok := numberOf(first)
	if !ok || who < 0 || who >= api.Tenants || !p.comes(rankFaults+who) {
		return false
	}
	p.setup.Faults[who], ok = listOf(rest)
	return ok
}

// step takes a step; no more of them are kept than may be.
func (p *parser) step(line string) bool {
	s, ok := read(p.names, line)
	if !ok || !p.comes(rankSteps) {
		return false
	}
	if len(p.steps) < api.MaxSteps {
		p.steps = append(p.steps, s)
	} else {
		p.many = true
	}
	return true
}
