package script

import (
	"slices"
	"strconv"
	"strings"

	"hearsay/api"
	"hearsay/quote"
)

// liner lays a line: its first word, with the blanks ahead of it, and words behind.
type liner func(first string, behind ...[]string)

// lineTo is a liner that writes to b.
func lineTo(b *strings.Builder) liner {
	return func(first string, behind ...[]string) {
		b.WriteString(first)
		for _, word := range slices.Concat(behind...) {
			b.WriteByte(' ')
			b.WriteString(word)
		}
		b.WriteByte('\n')
	}
}

// Tell is a step and its answer as a text.
func Tell(s api.Step, a api.Answer) string {
	var b strings.Builder
	line := lineTo(&b)
	if !layStep(line, table(), s) {
		line("step", numbers(s.Kind))
	}
	if a.Err != api.OK {
		line("  error", numbers(int(a.Err)))
	}
	if s.Kind == api.StepText && a.Err == api.OK {
		line("  text", quoted(a.Text))
	}
	if a.Op.Kind != 0 {
		line("  op", dots(a.Op.Dot), []string{"after"}, dots(a.Op.Deps...), done(a.Op))
	}
	if a.Sight.Site != 0 {
		tellSight(line, a.Sight)
	}
	for _, c := range a.Copies {
		line("  copy", numbers(c.Num), named("from", c.From), named("to", c.To), named("sent", c.Sent), when(c.Bad, "bad"), quoted(string(c.Data)))
	}
	return b.String()
}

// done is what an operation has done.
func done(o api.Op) []string {
	switch o.Kind {
	case api.OpInsert:
		return slices.Concat(named("insert", o.ID.Time, o.ID.Site), named("behind", o.Ref.Time, o.Ref.Site), quoted(o.Text))
	case api.OpDelete:
		words := []string{"delete"}
		for _, r := range o.Gone {
			words = append(words, numbers(r.ID.Time, r.ID.Site, r.Count)...)
		}
		return words
	case api.OpJoin:
		return named("join", o.Site)
	case api.OpLeave:
		return []string{"leave"}
	}
	return named("kind", o.Kind)
}

// tellSight lays the lines of what a site tells of itself.
func tellSight(line liner, s api.Sight) {
	line("  site", numbers(s.Site), when(s.Active, "active"), when(s.Leaving, "leaving"),
		named("clock", s.Clock), named("tick", s.Tick), named("log", s.Log), named("kept", s.Kept), named("epoch", s.Epoch))
	line("  vector", dots(s.Vector...))
	line("  base", dots(s.Base...))
	line("  held", dots(s.Held...))
	line("  members", numbers(s.Members...))
	for _, p := range s.Peers {
		line("  peer", numbers(p.Peer), when(p.Heard, "heard"),
			named("got", p.Got), named("credit", p.Credit), named("gap", p.Gap), named("due", p.Due))
		line("    row", dots(p.Row...))
		line("    usable", dots(p.Usable...))
		line("    flight", numbers(p.Flight...))
	}
}

// numbers is numbers as words.
func numbers(list ...int) []string {
	var words []string
	for _, n := range list {
		words = append(words, strconv.Itoa(n))
	}
	return words
}

// dots is the numbers of Dots as words.
func dots(list ...api.Dot) []string {
	var words []string
	for _, d := range list {
		words = append(words, numbers(d.Site, d.Seq)...)
	}
	return words
}

// named is a word with numbers behind it.
func named(word string, list ...int) []string {
	return append([]string{word}, numbers(list...)...)
}

// when is a word that is there if something holds.
func when(holds bool, word string) []string {
	if !holds {
		return nil
	}
	return []string{word}
}

// quoted is a text as a word in quotes.
func quoted(text string) []string {
	return []string{quote.Quote(text)}
}
