package script

import (
	"slices"

	"hearsay/api"
)

// field is what words behind a line's first one stand for: one of its functions is there, and points into the step.
type field struct {
	number  func(s *api.Step) *int    // one number
	numbers func(s *api.Step) *[]int  // all words that are left in the line
	text    func(s *api.Step) *string // one text in quotes
	data    func(s *api.Step) *[]byte // one, as bytes
}

// row is a kind of steps: the word that its line begins with, and what stands behind that.
type row struct {
	word   string
	kind   int
	fields []field
}

// table is all kinds of steps; what is read and what is printed both go by it.
func table() []row {
	site := field{number: func(s *api.Step) *int { return &s.Site }}
	peer := field{number: func(s *api.Step) *int { return &s.Peer }}
	at := field{number: func(s *api.Step) *int { return &s.At }}
	n := field{number: func(s *api.Step) *int { return &s.N }}
	draws := field{numbers: func(s *api.Step) *[]int { return &s.Draws }}
	text := field{text: func(s *api.Step) *string { return &s.Text }}
	data := field{data: func(s *api.Step) *[]byte { return &s.Data }}
	return []row{
		{"insert", api.StepInsert, []field{site, at, text}},
		{"delete", api.StepDelete, []field{site, at, n}},
		{"join", api.StepJoin, []field{site, peer}},
		{"leave", api.StepLeave, []field{site}},
		{"stop", api.StepStop, []field{site}},
		{"tick", api.StepTick, []field{draws}},
		{"deliver", api.StepDeliver, []field{n}},
		{"drop", api.StepDrop, []field{n}},
		{"double", api.StepDouble, []field{n}},
		{"alter", api.StepAlter, []field{n, at, data}},
		{"cut", api.StepCut, []field{n, at}},
		{"text", api.StepText, []field{site}},
		{"sight", api.StepSight, []field{site}},
		{"copies", api.StepCopies, nil},
	}
}

// read is the step that a line's words say; with false, they say none of this row.
func (r row) read(words []api.Word) (api.Step, bool) {
	if words[0].Kind != api.WordPlain || words[0].Text != r.word {
		return api.Step{}, false
	}
	s := api.Step{Kind: r.kind}
	left := words[1:]
	for _, f := range r.fields {
		count, ok := f.take(&s, left)
		if !ok {
			return api.Step{}, false
		}
		left = left[count:]
	}
	return s, len(left) == 0
}

// take puts into a step what the next words say, and tells how many it took; with false, they are none that may stand there.
func (f field) take(s *api.Step, words []api.Word) (int, bool) {
	if f.numbers != nil {
		return len(words), takeAll(f.numbers(s), words)
	}
	if len(words) == 0 {
		return 0, false
	}
	w := words[0]
	switch {
	case f.number != nil && w.Kind == api.WordNumber:
		*f.number(s) = w.Num
	case f.text != nil && w.Kind == api.WordQuoted:
		*f.text(s) = w.Text
	case f.data != nil && w.Kind == api.WordQuoted:
		*f.data(s) = []byte(w.Text)
	default:
		return 0, false
	}
	return 1, true
}

// takeAll lays the numbers that words say behind a list, and tells whether all of them are numbers.
func takeAll(list *[]int, words []api.Word) bool {
	for _, w := range words {
		if w.Kind != api.WordNumber {
			return false
		}
		*list = append(*list, w.Num)
	}
	return true
}

// layStep lays the line of a step; with false, there is none of its kind.
func layStep(line liner, rows []row, s api.Step) bool {
	i := slices.IndexFunc(rows, func(r row) bool { return r.kind == s.Kind })
	if i < 0 {
		return false
	}
	var words []string
	for _, f := range rows[i].fields {
		words = append(words, f.words(&s)...)
	}
	line(rows[i].word, words)
	return true
}

// words is what stands for the field of a step.
func (f field) words(s *api.Step) []string {
	switch {
	case f.number != nil:
		return numbers(*f.number(s))
	case f.numbers != nil:
		return numbers(*f.numbers(s)...)
	case f.text != nil:
		return quoted(*f.text(s))
	}
	return quoted(string(*f.data(s)))
}
