package script_test

import (
	"math/rand"
	"slices"
	"strconv"
	"strings"
	"testing"

	"hearsay/api"
	"hearsay/quote"
	"hearsay/script"
)

// maker makes steps, answers and scripts by chance.
type maker struct {
	chance *rand.Rand
}

func (m maker) one(of ...string) string { return of[m.chance.Intn(len(of))] }

// number is a small one, or any, or one about an edge.
func (m maker) number() int {
	switch m.chance.Intn(4) {
	case 0:
		return edges[m.chance.Intn(len(edges))]
	case 1:
		return int(m.chance.Uint64()) >> m.chance.Intn(64)
	}
	return m.chance.Intn(30) - 5
}

// text is any bytes, or runes that are laid in all ways, or what looks like a script.
func (m maker) text() string {
	s := ""
	for range m.chance.Intn(6) {
		switch m.chance.Intn(4) {
		case 0:
			s += string([]byte{byte(m.chance.Intn(256))})
		case 1:
			s += m.one("\"", "\\", "\n", "\r", "\t", "#", " ", "é", "𝄞", "\u200b", "\ufffd", "\ufeff", "\x00", "\x7f")
		case 2:
			s += m.one("copies\n", "  op 1 1", "\\x41", "\" bad", "insert 1 0 \"", "-1")
		default:
			s += string(rune('a' + m.chance.Intn(26)))
		}
	}
	return s
}

// list is some of what one makes; now and then none, nil or empty.
func list[T any](m maker, one func() T) []T {
	l := make([]T, 0, m.chance.Intn(3))
	for range m.chance.Intn(4) {
		l = append(l, one())
	}
	if len(l) == 0 && m.chance.Intn(2) == 0 {
		return nil
	}
	return l
}

// kind is one of those from 1 to most, seldom another.
func (m maker) kind(most int) int {
	if m.chance.Intn(20) == 0 {
		return m.number()
	}
	return 1 + m.chance.Intn(most)
}

// step is one with anything in all of its fields.
func (m maker) step(kind int) api.Step {
	return api.Step{
		Kind: kind, Site: m.number(), Peer: m.number(), Unit: m.number(), At: m.number(), N: m.number(), Text: m.text(), Draws: list(m, m.number), Data: []byte(m.text()),
	}
}

// steps is steps of the fourteen kinds; with wild, some of others.
func (m maker) steps(wild bool) []api.Step {
	return list(m, func() api.Step {
		if wild {
			return m.step(m.kind(lastKind))
		}
		return m.step(1 + m.chance.Intn(lastKind))
	})
}

func (m maker) dot() api.Dot { return api.Dot{Site: m.number(), Seq: m.number()} }

func (m maker) id() api.ID { return api.ID{Time: m.number(), Site: m.number()} }

func (m maker) run() api.Run { return api.Run{ID: m.id(), Count: m.number()} }

func (m maker) yes() bool { return m.chance.Intn(2) == 0 }

func (m maker) op() api.Op {
	return api.Op{Dot: m.dot(), Deps: list(m, m.dot), Kind: m.kind(5) - 1, ID: m.id(), Ref: m.id(), Text: m.text(), Gone: list(m, m.run), Site: m.number()}
}

func (m maker) peer() api.PeerSight {
	return api.PeerSight{
		Peer: m.number(), Heard: m.yes(), Row: list(m, m.dot), Usable: list(m, m.dot), Flight: list(m, m.number), Got: m.number(), Credit: m.number(), Gap: m.number(), Due: m.number(),
	}
}

func (m maker) sight() api.Sight {
	return api.Sight{
		Site: m.number(), Active: m.yes(), Leaving: m.yes(), Vector: list(m, m.dot), Base: list(m, m.dot), Clock: m.number(), Tick: m.number(), Held: list(m, m.dot),
		Log: m.number(), Kept: m.number(), Members: list(m, m.number), Epoch: m.number(), Peers: list(m, m.peer),
	}
}

func (m maker) copy() api.Copy {
	return api.Copy{Num: m.number(), From: m.number(), To: m.number(), Data: []byte(m.text()), Sent: m.number(), Bad: m.yes()}
}

// answer is one with some of what an answer may have.
func (m maker) answer() api.Answer {
	var a api.Answer
	if m.yes() {
		a.Err = api.Errno(m.chance.Intn(21))
	}
	if m.yes() {
		a.Text = m.text()
	}
	if m.yes() {
		a.Op = m.op()
	}
	if m.yes() {
		a.Sight = m.sight()
	}
	if m.yes() {
		a.Copies = list(m, m.copy)
	}
	return a
}

// word is one that may stand in a script, good or not.
func (m maker) word() string {
	switch m.chance.Intn(12) {
	case 0:
		return m.one("leave", "tick", "copies", "Leave", "x", "-", "step", "١")
	case 1:
		return m.one("01", "-0", "7x", "9223372036854775808", "a\"b", "\"", "\"a", "\"\\q\"", "\"\xff\"", "\xff", "a\x01", "\x7f", "\"a\"b")
	case 2, 3, 4:
		return m.inQuotes(m.text())
	}
	return strconv.Itoa(m.number())
}

// inQuotes is a text in quotes, not always as Quote lays it.
func (m maker) inQuotes(s string) string {
	if m.yes() {
		return quote.Quote(s)
	}
	said := `"`
	for _, b := range []byte(s) {
		said += `\x` + string("0123456789abcdef"[b>>4]) + string("0123456789abcdef"[b&15])
	}
	return said + `"`
}

// line is a line of a script: mostly a good one, else with a word turned, taken away or put in.
func (m maker) line() string {
	s := m.step(1 + m.chance.Intn(lastKind))
	words := strings.Fields(rows[s.Kind])[:1]
	for _, name := range fields(s.Kind) {
		switch name {
		case "Text", "Data":
			words = append(words, m.inQuotes(m.text()))
		case "Draws":
			for _, n := range s.Draws {
				words = append(words, strconv.Itoa(n))
			}
		default:
			words = append(words, strconv.Itoa(m.number()))
		}
	}
	if i := m.chance.Intn(len(words)); m.chance.Intn(8) == 0 {
		words[i] = m.word()
	} else if m.chance.Intn(16) == 0 {
		words = slices.Delete(words, i, i+1)
	} else if m.chance.Intn(16) == 0 {
		words = slices.Insert(words, i, m.word())
	}
	blank := func() string { return m.one(" ", " ", " ", "\t", "  ", " \t ") }
	line := m.one("", "", "", " ", "\t")
	for i, w := range words {
		if i > 0 {
			line += blank()
		}
		line += w
	}
	return line + m.one("", "", "", " ", "#", " # r", "# \"\xff", "\t#01")
}

// script is lines, some of which say nothing.
func (m maker) script() string {
	text := ""
	for range m.chance.Intn(7) {
		if m.chance.Intn(4) == 0 {
			text += m.one("", " ", "# r", "\t#\xff\"") + m.one("\n", "\r", "\r\n")
		}
		text += m.line() + m.one("\n", "\n", "\r\n", "\r")
	}
	if m.yes() {
		text = strings.TrimRight(text, "\r\n")
	}
	return text
}

// TestScripts: P22.1, P22.4: scripts by chance, good and not, read both ways; what a good one is printed as is read as the same again.
func TestScripts(t *testing.T) {
	m := maker{rand.New(rand.NewSource(22))}
	times, steps := map[api.Errno]int{}, map[int]int{}
	for range 20000 {
		text := m.script()
		got, err := both(t, text)
		times[err]++
		for _, s := range got {
			steps[s.Kind]++
		}
		if err != api.OK {
			continue
		}
		printed, e := bothPrint(t, got)
		if again, line, err := script.Parse(printed); e != api.OK || err != api.OK || line != 0 || !same(again, got) {
			t.Fatalf("%+q: printed %+q, %d; that says %+v, %d", text, printed, int(e), again, int(err))
		}
	}
	for _, err := range []api.Errno{api.OK, api.ErrStep, api.ErrQuote, api.ErrForm, api.ErrText} {
		if times[err] < 100 {
			t.Errorf("error %d: %d times alone", int(err), times[err])
		}
	}
	for kind := 1; kind <= lastKind; kind++ {
		if steps[kind] < 500 {
			t.Errorf("kind %d: %d times alone", kind, steps[kind])
		}
	}
}

// TestSteps: P22.2, P22.4: steps by chance, printed both ways; what they are printed as says them again, but for what their kinds do not have, and is printed the same again.
func TestSteps(t *testing.T) {
	m := maker{rand.New(rand.NewSource(222))}
	refused := 0
	for i := range 20000 {
		steps := m.steps(i%4 == 0)
		text, err := bothPrint(t, steps)
		if err != api.OK {
			refused++
			continue
		}
		want := slices.Clone(steps)
		for k := range want {
			want[k] = bare(want[k])
		}
		got, line, err := script.Parse(text)
		if !same(got, want) || line != 0 || err != api.OK {
			t.Fatalf("%+v: printed %+q; that says %+v, %d, %d", steps, text, got, line, int(err))
		}
		if again, err := script.Print(got); again != text || err != api.OK {
			t.Fatalf("%+q: another time %+q, %d", text, again, int(err))
		}
	}
	if refused < 200 {
		t.Errorf("%d were refused alone", refused)
	}
}

// TestAnswers: P22.3, P22.5: steps and answers by chance, told both ways; what is told says again all that the chapter names.
func TestAnswers(t *testing.T) {
	m := maker{rand.New(rand.NewSource(223))}
	for range 10000 {
		bothTell(t, m.step(m.kind(lastKind)), m.answer())
	}
}

// TestShortScripts: P22.1: all short texts of the pieces that lines are made of.
func TestShortScripts(t *testing.T) {
	for _, pieces := range [][]string{
		{"leave", "tick", " ", "1", "\n", "\r", "#", `"`, "0"},
		{"insert", " 1", " -2", ` "a"`, " x", " 01", "\n"},
		{"copies", "tick", " 7", ` ""`, "\r\n", "\xff", "#"},
	} {
		texts := []string{""}
		for at := 0; at < len(texts) && len(texts) < 20000; at++ {
			for _, p := range pieces {
				texts = append(texts, texts[at]+p)
			}
		}
		good := 0
		for _, text := range texts {
			if steps, _ := both(t, text); len(steps) > 0 {
				good++
			}
		}
		if good < 10 {
			t.Errorf("%q: %d say steps alone", pieces, good)
		}
	}
}

// TestAnyBytes: W1: Parse of any bytes.
func TestAnyBytes(t *testing.T) {
	m := maker{rand.New(rand.NewSource(1))}
	common := "leavtick 1-0\"#\\ \n\r\t\xff"
	for range 20000 {
		b := make([]byte, m.chance.Intn(24))
		m.chance.Read(b)
		if m.chance.Intn(4) > 0 {
			for i := range b {
				b[i] = common[int(b[i])%len(common)]
			}
		}
		both(t, string(b))
		both(t, "tick "+string(b))
	}
}
