package world_test

import (
	"fmt"
	"math/rand"
	"slices"
	"testing"

	"hearsay/api"
	"hearsay/world"
)

// player makes steps by chance.
type player struct {
	chance *rand.Rand
	most   int  // numbers of sites up to that join
	wild   bool // numbers and fields may be anything
}

// someConfig is a Config of small numbers, so that all limits are met.
func someConfig(chance *rand.Rand) api.Config {
	least := 1 + chance.Intn(3)
	keep := chance.Intn(8)
	if chance.Intn(3) == 0 {
		keep = 100
	}
	return api.Config{Hold: chance.Intn(5), Window: 1 + chance.Intn(3), Push: 1 + chance.Intn(4), Min: least, Max: least + chance.Intn(7), Keep: keep}
}

// orEdge is a number; of a wild player seldom anything else.
func (p player) orEdge(n int) int {
	if p.wild && p.chance.Intn(16) == 0 {
		return edges[p.chance.Intn(len(edges))]
	}
	return n
}

func (p player) site() int { return p.orEdge(1 + p.chance.Intn(p.most)) }

// number is that of a copy that is under way; seldom of another one.
func (p player) number(under []int) int {
	if len(under) > 0 && p.chance.Intn(12) > 0 {
		return p.orEdge(under[p.chance.Intn(len(under))])
	}
	return p.orEdge(p.chance.Intn(60))
}

func (p player) draws() []int {
	var l []int
	for range p.chance.Intn(p.most + 2) {
		l = append(l, p.orEdge(p.chance.Intn(2*p.most)-p.most/2))
	}
	return l
}

const letters = "abcdefghijklmnopqrstuvwxyzé€𝄞"

func (p player) text() string {
	if p.wild && p.chance.Intn(20) == 0 {
		return []string{"", "\xff", "a\xc3"}[p.chance.Intn(3)]
	}
	runes := []rune(letters)
	s := ""
	for range 1 + p.chance.Intn(3) {
		s += string(runes[p.chance.Intn(len(runes))])
	}
	return s
}

// bytes is what a copy may be altered by.
func (p player) bytes() []byte {
	b := make([]byte, p.orEdge(1+p.chance.Intn(4))&7)
	for i := range b {
		b[i] = byte(p.chance.Intn(256))
	}
	return b
}

// step is any step; a place is below length and somewhat more.
func (p player) step(under []int, length int) api.Step {
	place := func() int { return p.orEdge(p.chance.Intn(length + 1)) }
	var s api.Step
	switch k := p.chance.Intn(200); {
	case k < 30:
		s = insert(p.site(), place(), p.text())
	case k < 44:
		s = remove(p.site(), place(), p.orEdge(1+p.chance.Intn(3)))
	case k < 54:
		s = join(p.site(), p.site())
	case k < 56:
		s = leave(p.site())
	case k < 58:
		s = stop(p.site())
	case k < 90:
		s = tick(p.draws()...)
	case k < 150:
		s = deliver(p.number(under))
	case k < 164:
		s = drop(p.number(under))
	case k < 174:
		s = double(p.number(under))
	case k < 182:
		s = alter(p.number(under), p.orEdge(p.chance.Intn(40)), string(p.bytes()))
	case k < 188:
		s = cut(p.number(under), p.orEdge(p.chance.Intn(40)))
	case k < 192:
		s = text(p.site())
	case k < 196:
		s = sight(p.site())
	case k < 198:
		s = copies()
	default:
		s = api.Step{Kind: p.orEdge(15)}
	}
	if p.wild && p.chance.Intn(8) == 0 {
		return p.filled(s)
	}
	return s
}

// filled is a step in which something stands where its kind has nothing.
func (p player) filled(s api.Step) api.Step {
	for _, f := range []*int{&s.Site, &s.Peer, &s.Unit, &s.At, &s.N} {
		if *f == 0 {
			*f = p.orEdge(p.chance.Intn(9) - 2)
		}
	}
	if s.Text == "" {
		s.Text = "filled"
	}
	if len(s.Draws) == 0 && s.Kind != api.StepTick {
		s.Draws = []int{1, 2}
	}
	if len(s.Data) == 0 {
		s.Data = []byte{1}
	}
	return s
}

// underWay is the numbers of the copies that are.
func (m *model) underWay() []int {
	var l []int
	for _, x := range m.copies() {
		l = append(l, x.Num)
	}
	return l
}

// length is the greatest one of the texts.
func (m *model) length() int {
	n := 0
	for _, h := range m.sites {
		if h.missing() == api.OK {
			n = max(n, h.site.Len())
		}
	}
	return n
}

// seen counts what came up, so that nothing is left out by chance.
type seen map[string]int

func (s seen) add(step api.Step, a api.Answer) { s[fmt.Sprintf("%d: %d", step.Kind, int(a.Err))]++ }

// want tells which answers of a kind of step never came.
func (s seen) want(t *testing.T, kind int, errs ...api.Errno) {
	t.Helper()
	for _, err := range errs {
		if key := fmt.Sprintf("%d: %d", kind, int(err)); s[key] == 0 {
			t.Errorf("no step of kind %d was answered with error %d", kind, int(err))
		}
	}
}

func rounds(all int) int {
	if testing.Short() {
		return all / 8
	}
	return all
}

// TestScripts: P21.1 to P21.5, P21.7, P21.9: many scripts of any steps, each held against what it must answer, with all that a world tells behind it; some with frames that are made by hand.
func TestScripts(t *testing.T) {
	saw := seen{}
	for seed := range rounds(320) {
		chance := rand.New(rand.NewSource(int64(seed)))
		p := player{chance, 2 + chance.Intn(5), seed%4 > 0}
		b := begun(t, someConfig(chance))
		for range 60 + chance.Intn(160) {
			s := p.step(b.m.underWay(), b.m.length())
			saw.add(s, b.do(t, s))
			if seed%8 == 5 && chance.Intn(6) == 0 {
				b.layAny(t, p)
			}
			if chance.Intn(4) == 0 {
				b.wantAll(t)
			}
			if t.Failed() {
				t.Fatalf("seed %d", seed)
			}
		}
		b.wantAll(t)
	}
	if testing.Short() {
		return
	}
	gone := []api.Errno{api.OK, api.ErrNone, api.ErrGone}
	for _, kind := range []int{api.StepStop, api.StepText, api.StepSight} {
		saw.want(t, kind, gone...)
	}
	edit := append(slices.Clone(gone), api.ErrIdle, api.ErrLeft)
	saw.want(t, api.StepInsert, append(edit, api.ErrText, api.ErrIndex)...)
	saw.want(t, api.StepDelete, append(edit, api.ErrIndex)...)
	saw.want(t, api.StepJoin, append(edit, api.ErrExists, api.ErrArg)...)
	saw.want(t, api.StepLeave, edit...)
	saw.want(t, api.StepTick, api.OK)
	saw.want(t, api.StepCopies, api.OK)
	saw.want(t, api.StepDeliver, api.OK, api.ErrNone, api.ErrShort, api.ErrLong, api.ErrSum, api.ErrSite, api.ErrIdle)
	saw.want(t, api.StepDrop, api.OK, api.ErrNone)
	saw.want(t, api.StepDouble, api.OK, api.ErrNone)
	saw.want(t, api.StepAlter, api.OK, api.ErrNone, api.ErrArg, api.ErrExists)
	saw.want(t, api.StepCut, api.OK, api.ErrNone, api.ErrArg, api.ErrExists)
	saw.want(t, 15, api.ErrStep)
}

// layAny lets a site say what it would not: what another one said, to whomever, or any bytes.
func (b both) layAny(t *testing.T, p player) {
	t.Helper()
	from, to := 1+p.chance.Intn(7), 1+p.chance.Intn(7)
	if from == to {
		return
	}
	data := p.bytes()
	if len(b.m.frames) > 0 && p.chance.Intn(3) > 0 {
		data = []byte(b.m.frames[p.chance.Intn(len(b.m.frames))])
	}
	if p.chance.Intn(5) == 0 {
		data = encoded(t, api.Frame{Kind: api.FrameOps, From: from, To: to, Num: p.chance.Intn(3)})
	}
	b.lay(t, from, to, data)
}

// TestFewSteps: P21.2 to P21.5: all rows of few steps about two sites.
func TestFewSteps(t *testing.T) {
	steps := []api.Step{
		insert(1, 0, "a"), insert(2, 0, "b"), remove(1, 0, 1), join(2, 1), join(1, 2), leave(2), stop(1), stop(2), tick(), deliver(1), deliver(2), drop(1), double(1), alter(1, 5, "\xf5"), cut(2, 3),
	}
	length := 4
	if testing.Short() {
		length = 3
	}
	rows := [][]int{nil}
	for at := 0; at < len(rows); at++ {
		// An active second site is far off, so half of the rows begin with it.
		for _, head := range [][]api.Step{nil, {join(2, 1), tick(), deliver(1)}} {
			if len(head) > 0 && len(rows[at]) == length {
				continue
			}
			b := begun(t, c)
			for _, s := range head {
				b.ask(t, s)
			}
			for _, i := range rows[at] {
				b.ask(t, steps[i])
			}
			b.want(t)
			b.ask(t, text(1))
			b.ask(t, sight(2))
			b.ask(t, copies())
			b.want(t)
		}
		for i := range steps {
			if len(rows[at]) < length {
				rows = append(rows, append(slices.Clone(rows[at]), i))
			}
		}
	}
}

// scripted is the steps of a script by chance.
func scripted(t *testing.T, seed int64, most int, steps int) (api.Config, []api.Step) {
	t.Helper()
	chance := rand.New(rand.NewSource(seed))
	p := player{chance, most, true}
	b := begun(t, someConfig(chance))
	for range steps {
		b.ask(t, p.step(b.m.underWay(), b.m.length()))
	}
	return b.m.c, b.m.past
}

// TestSame: P21.8, W2: two worlds of one Config, given the same steps, answer the same, at every step; so do many that are played at one time by goroutines of their own.
func TestSame(t *testing.T) {
	for seed := range rounds(40) {
		c, steps := scripted(t, int64(seed)+1<<30, 5, 200)
		one, _ := world.New(c)
		two, _ := world.New(c)
		for i, s := range steps {
			if a, b := one.Do(s), two.Do(s); !sameAnswer(a, b) {
				t.Fatalf("seed %d, step %d, %s: %s; %s", seed, i, words(s), words(a), words(b))
			}
		}
		wantSameWorlds(t, fmt.Sprint("seed ", seed), one, two)
		if seed%8 > 0 {
			continue
		}
		want, _ := replayed(t, c, steps)
		all := make(chan *world.World)
		for range 6 {
			go func() {
				w, _ := world.New(c)
				for _, s := range steps {
					w.Do(s)
				}
				all <- w
			}()
		}
		for range 6 {
			again, _ := replayed(t, c, steps)
			wantSameWorlds(t, fmt.Sprint("seed ", seed), <-all, again)
		}
		if want.Steps() != len(steps) {
			t.Errorf("%d steps of %d", want.Steps(), len(steps))
		}
	}
}

// TestRefusedSteps: P21.7, P0.7, W3: a world to which steps are done that are refused goes on as one to which as many are done that ask only.
func TestRefusedSteps(t *testing.T) {
	refused := 0
	for seed := range rounds(60) {
		c, steps := scripted(t, int64(seed)+1<<40, 5, 160)
		one, err := world.New(c)
		wantErr(t, "New", err, api.OK)
		two, _ := world.New(c)
		for _, s := range steps {
			a := one.Do(s)
			if a.Err != api.OK && len(a.Copies) == 0 {
				refused++
				if !sameAnswer(a, api.Answer{Err: a.Err}) {
					t.Fatalf("seed %d, %s: %s", seed, words(s), words(a))
				}
				s = copies()
			}
			if b := two.Do(s); a.Err == api.OK && !sameAnswer(a, b) {
				t.Fatalf("seed %d, %s: %s; %s", seed, words(s), words(a), words(b))
			}
			if one.Steps() != two.Steps() {
				t.Fatalf("seed %d: %d steps; %d", seed, one.Steps(), two.Steps())
			}
		}
		wantSameWorlds(t, fmt.Sprint("seed ", seed), one, two)
	}
	if !testing.Short() && refused < 2000 {
		t.Errorf("only %d steps were refused", refused)
	}
}
