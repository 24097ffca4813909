// Package whole_test holds the promises of the whole, P0.1 to P0.13 of DOC.md, against many plays of worlds. It has no code but tests: what they go through is in all layers.
package whole_test

import (
	"fmt"
	"slices"

	"hearsay/api"
	"hearsay/script"
)

func insert(site, at int, text string) api.Step {
	return api.Step{Kind: api.StepInsert, Site: site, At: at, Text: text}
}

func remove(site, at, n int) api.Step {
	return api.Step{Kind: api.StepDelete, Site: site, At: at, N: n}
}

func join(site, sponsor int) api.Step {
	return api.Step{Kind: api.StepJoin, Site: site, Peer: sponsor}
}

func leave(site int) api.Step { return api.Step{Kind: api.StepLeave, Site: site} }

func stop(site int) api.Step { return api.Step{Kind: api.StepStop, Site: site} }

func tick(draws ...int) api.Step { return api.Step{Kind: api.StepTick, Draws: draws} }

func deliver(n int) api.Step { return api.Step{Kind: api.StepDeliver, N: n} }

func drop(n int) api.Step { return api.Step{Kind: api.StepDrop, N: n} }

func double(n int) api.Step { return api.Step{Kind: api.StepDouble, N: n} }

func alter(n, at int, data ...byte) api.Step {
	return api.Step{Kind: api.StepAlter, N: n, At: at, Data: data}
}

func cut(n, size int) api.Step { return api.Step{Kind: api.StepCut, N: n, At: size} }

func text(site int) api.Step { return api.Step{Kind: api.StepText, Site: site} }

func sight(site int) api.Step { return api.Step{Kind: api.StepSight, Site: site} }

func copies() api.Step { return api.Step{Kind: api.StepCopies} }

// told is a step and its answer in words.
func told(s api.Step, a api.Answer) string { return script.Tell(s, a) }

// words is anything, but not at any length.
func words(v any) string { return fmt.Sprintf("%.1500s", fmt.Sprintf("%+v", v)) }

// What an answer's lists are is the same, nil or empty.

func sameOp(a, b api.Op) bool {
	return a.Dot == b.Dot && slices.Equal(a.Deps, b.Deps) && a.Kind == b.Kind && a.ID == b.ID && a.Ref == b.Ref && a.Text == b.Text && slices.Equal(a.Gone, b.Gone) && a.Site == b.Site
}

func sameCopy(a, b api.Copy) bool {
	return a.Num == b.Num && a.From == b.From && a.To == b.To && a.Sent == b.Sent && a.Bad == b.Bad && slices.Equal(a.Data, b.Data)
}

func samePeer(a, b api.PeerSight) bool {
	return a.Peer == b.Peer && a.Heard == b.Heard && a.Got == b.Got && a.Credit == b.Credit && a.Gap == b.Gap && a.Due == b.Due &&
		slices.Equal(a.Row, b.Row) && slices.Equal(a.Usable, b.Usable) && slices.Equal(a.Flight, b.Flight)
}

func sameSight(a, b api.Sight) bool {
	return a.Site == b.Site && a.Active == b.Active && a.Leaving == b.Leaving && a.Clock == b.Clock && a.Tick == b.Tick && a.Log == b.Log && a.Kept == b.Kept && a.Epoch == b.Epoch &&
		slices.Equal(a.Vector, b.Vector) && slices.Equal(a.Base, b.Base) && slices.Equal(a.Held, b.Held) && slices.Equal(a.Members, b.Members) && slices.EqualFunc(a.Peers, b.Peers, samePeer)
}

func sameLook(a, b look) bool { return a.text == b.text && sameSight(a.sight, b.sight) }
