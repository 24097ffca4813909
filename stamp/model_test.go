package stamp_test

import (
	"math/big"
	"regexp"
	"slices"
	"strconv"
	"strings"

	"hearsay/api"
)

// What the chapter says, worked out a second time by other means: numbers without an end, sets, patterns and binary digits as texts.

// rank is one great number for an identifier, whatever its numbers: of two identifiers the lower one has the lower rank.
func rank(id api.ID) *big.Int {
	r := new(big.Int).Lsh(big.NewInt(int64(id.Time)), 80)
	return r.Add(r, big.NewInt(int64(id.Site)))
}

// within tells whether a number is 1 to most.
func within(n *big.Int, most int64) bool {
	return n.Sign() > 0 && n.Cmp(big.NewInt(most)) <= 0
}

// later is a Time so much later, whatever the numbers.
func later(time, n int) *big.Int {
	return new(big.Int).Add(big.NewInt(int64(time)), big.NewInt(int64(n)))
}

func wantIsID(id api.ID) bool {
	return within(later(id.Time, 0), api.MaxTime) && within(later(id.Site, 0), api.MaxSites)
}

func wantAfter(id api.ID, n int) api.ID {
	time := later(id.Time, n)
	if n < 0 || !wantIsID(id) || !within(time, api.MaxTime) {
		return api.ID{}
	}
	return api.ID{Time: int(time.Int64()), Site: id.Site}
}

// wantPack asks of each identifier whether one comes ahead of it: where none does, a run begins.
func wantPack(ids []api.ID) []api.Run {
	set := map[api.ID]bool{}
	for _, id := range ids {
		if wantIsID(id) {
			set[id] = true
		}
	}
	var runs []api.Run
	for id := range set {
		if set[api.ID{Time: id.Time - 1, Site: id.Site}] {
			continue
		}
		n := 1
		for set[api.ID{Time: id.Time + n, Site: id.Site}] {
			n++
		}
		runs = append(runs, api.Run{ID: id, Count: n})
	}
	slices.SortFunc(runs, func(a, b api.Run) int { return rank(a.ID).Cmp(rank(b.ID)) })
	return runs
}

// wantCheck holds each run against each one ahead of it.
func wantCheck(runs []api.Run) api.Errno {
	for i, r := range runs {
		last := new(big.Int).Sub(later(r.ID.Time, r.Count), big.NewInt(1))
		if r.Count < 1 || !wantIsID(r.ID) || !within(last, api.MaxTime) {
			return api.ErrArg
		}
		if i > 0 && rank(r.ID).Cmp(rank(runs[i-1].ID)) <= 0 {
			return api.ErrOrder
		}
		for _, o := range runs[:i] {
			// Two ranges touch or meet, if neither ends more than one ahead of the other's beginning.
			if o.ID.Site == r.ID.Site && o.ID.Time <= r.ID.Time+r.Count && r.ID.Time <= o.ID.Time+o.Count {
				return api.ErrForm
			}
		}
	}
	return api.OK
}

// wantEach is for runs of few identifiers alone.
func wantEach(runs []api.Run) []api.ID {
	if wantCheck(runs) != api.OK {
		return nil
	}
	var ids []api.ID
	for _, r := range runs {
		for id := r.ID; id.Time < r.ID.Time+r.Count; id.Time++ {
			ids = append(ids, id)
		}
	}
	return ids
}

// groups is a number's binary digits, cut into sevens from the lowest one on.
func groups(v int) []string {
	digits := strconv.FormatInt(int64(v), 2)
	var l []string
	for len(digits) > 7 {
		l = append(l, digits[len(digits)-7:])
		digits = digits[:len(digits)-7]
	}
	return append(l, digits)
}

// wantNumber is the bytes of a number from 0 on.
func wantNumber(v int) string {
	var b []byte
	l := groups(v)
	for i, digits := range l {
		if i < len(l)-1 {
			digits = "1" + digits
		}
		n, _ := strconv.ParseUint(digits, 2, 8)
		b = append(b, byte(n))
	}
	return string(b)
}

// thing is a number or a text, and how it is laid or taken.
type thing struct {
	isText bool
	number int
	text   string
}

func num(v int) thing { return thing{number: v} }

func text(s string) thing { return thing{isText: true, text: s} }

// wantLaid is what a Writer has laid of these things, and its error.
func wantLaid(things []thing) (string, api.Errno) {
	s := ""
	for _, x := range things {
		switch {
		case x.isText:
			s += wantNumber(len(x.text)) + x.text
		case x.number < 0:
			return s, api.ErrArg
		default:
			s += wantNumber(x.number)
		}
	}
	return s, api.OK
}

var (
	goodNumber  = regexp.MustCompile("^(?:[\x00-\x7f]|[\u0080-\u00ff]{1,8}[\x01-\x7f])")
	shortNumber = regexp.MustCompile("^[\u0080-\u00ff]{0,8}$")
)

// latin is bytes as runes, one for each byte, for patterns.
func latin(s string) string {
	var l []rune
	for i := range len(s) {
		l = append(l, rune(s[i]))
	}
	return string(l)
}

// taker is what a Reader must be: the bytes that are left, and its error.
type taker struct {
	left string
	err  api.Errno
}

// peek is the number that stands next, its width and its error.
func (k *taker) peek() (v, width int, err api.Errno) {
	l := latin(k.left)
	found := goodNumber.FindString(l)
	switch {
	case found != "":
	case shortNumber.MatchString(l):
		return 0, 0, api.ErrShort
	default:
		return 0, 0, api.ErrForm
	}
	digits := ""
	for _, r := range found {
		low := strconv.FormatInt(int64(r)%128, 2)
		digits = strings.Repeat("0", 7-len(low)) + low + digits
		width++
	}
	n, _ := strconv.ParseInt(digits, 2, 64)
	return int(n), width, api.OK
}

// next is what a Reader's Number or Text must answer.
func (k *taker) next(isText bool) thing {
	none := thing{isText: isText}
	if k.err != api.OK {
		return none
	}
	v, width, err := k.peek()
	size := later(v, width)
	switch {
	case err != api.OK:
		k.err = err
		return none
	case !isText:
		k.left = k.left[width:]
		return num(v)
	case size.Cmp(big.NewInt(int64(len(k.left)))) > 0:
		k.err = api.ErrShort
		return none
	}
	s := k.left[width : width+v]
	k.left = k.left[width+v:]
	return text(s)
}

func (k *taker) end() api.Errno {
	if k.err == api.OK && k.left != "" {
		return api.ErrForm
	}
	return k.err
}
