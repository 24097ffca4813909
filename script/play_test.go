package script_test

import (
	"math/rand"
	"strings"
	"testing"

	"hearsay/api"
	"hearsay/script"
	"hearsay/world"
)

var config = api.Config{Hold: 8, Window: 2, Push: 3, Min: 2, Max: 8, Keep: 100}

// played is what a world that is given a script tells, step by step.
func played(t *testing.T, text string) string {
	t.Helper()
	w, err := world.New(config)
	if err != api.OK {
		t.Fatalf("New: %d", int(err))
	}
	steps, line, err := script.Parse(text)
	if err != api.OK {
		t.Fatalf("line %d: %d", line, int(err))
	}
	told := ""
	for _, s := range steps {
		told += bothTell(t, s, w.Do(s))
	}
	return told
}

// TestPlay: P22.1, P22.3: a script and what became of it, as texts.
func TestPlay(t *testing.T) {
	got := played(t, `
insert 1 0 "h\u{e9}y" # at the founder
insert 2 0 ""
insert 1 9 "x"
join 2 1
join 2 1
text 2
tick
deliver 1
delete 2 1 1
text 2
sight 2
cut 2 3
deliver 2
stop 2
text 2
leave 1
`)
	want := `insert 1 0 "héy"
  op 1 2 after 1 1 insert 1 1 behind 0 0 "héy"
insert 2 0 ""
  error 11
insert 1 9 "x"
  error 3
join 2 1
  op 1 3 after 1 2 join 2
join 2 1
  error 12
text 2
  text ""
tick
deliver 1
  COPY 1
delete 2 1 1
  op 2 1 after 1 3 delete 2 1 1
text 2
  text "hy"
sight 2
  site 2 active clock 3 tick 1 log 4 kept 3 epoch 2
  vector 1 3 2 1
  base
  held
  members 1 2
  peer 1 heard got 1 credit 8 gap 0 due 0
    row 1 3
    usable 1 3
    flight
cut 2 3
deliver 2
  error 5
  COPY 2
stop 2
text 2
  error 16
leave 1
  op 1 4 after 1 3 leave
`
	lines := strings.SplitAfter(got, "\n")
	for i, l := range lines {
		for _, num := range []string{"1", "2"} {
			if strings.HasPrefix(l, "  copy "+num+" from ") {
				lines[i] = "  COPY " + num + "\n" // its bytes are chapter 10's
			}
		}
	}
	if got := strings.Join(lines, ""); got != want {
		t.Errorf("%s; want %s", got, want)
	}
}

// move is a step that a world of few sites does not always refuse.
func (m maker) move() api.Step {
	s := api.Step{Site: 1 + m.chance.Intn(3), Peer: 1 + m.chance.Intn(2), At: m.chance.Intn(4), N: 1 + m.chance.Intn(12), Text: m.one("a", "hé", "\"\n", "\u200b")}
	s.Data = []byte{byte(m.chance.Intn(256))}
	s.Draws = list(m, func() int { return m.chance.Intn(5) - 2 })
	kinds := []int{1, 1, 1, 1, 2, 2, 2, 3, 3, 6, 6, 6, 6, 6, 7, 7, 7, 7, 7, 7, 8, 9, 10, 11, 12, 13, 14}
	s.Kind = kinds[m.chance.Intn(len(kinds))]
	if m.chance.Intn(80) == 0 {
		s.Kind = 4 + m.chance.Intn(2) // a site leaves, or is stopped
	}
	return s
}

// TestPlays: P22.3, P22.4: what worlds answer, told both ways; a script that is printed and read again is played alike.
func TestPlays(t *testing.T) {
	m := maker{rand.New(rand.NewSource(224))}
	sights, copies := 0, 0
	for range 40 {
		w, _ := world.New(config)
		var steps []api.Step
		told := ""
		for range 60 {
			s := m.move()
			a := w.Do(s)
			steps = append(steps, s)
			told += bothTell(t, s, a)
			sights += len(a.Sight.Peers)
			copies += len(a.Copies)
		}
		text, err := bothPrint(t, steps)
		if again := played(t, text); again != told || err != api.OK {
			t.Fatalf("%s: %s; another time %s", text, told, again)
		}
	}
	if sights < 20 || copies < 200 {
		t.Errorf("%d peers and %d copies were told alone", sights, copies)
	}
}
