package frame

import (
	"slices"

	"hearsay/api"
	"hearsay/image"
	"hearsay/op"
	"hearsay/vector"
)

// refusals is what Check asks, in its order. Each may take for granted that those ahead of it had nothing against the frame.
func refusals(f api.Frame) []func() api.Errno {
	all := []func() api.Errno{
		func() api.Errno { return unless(isKind(f.Kind), api.ErrArg) },
		func() api.Errno { return unless(isSite(f.From) && isSite(f.To) && f.From != f.To, api.ErrArg) },
		func() api.Errno { return unless(upTo(api.MaxNum, f.Num) && upTo(api.MaxNum, f.Got), api.ErrArg) },
		func() api.Errno { return unless(upTo(api.MaxHold, f.Credit), api.ErrArg) },
		func() api.Errno { return vector.Check(f.Have) },
	}
	if f.Kind == api.FrameImage {
		return append(all, imageRefusals(f)...)
	}
	return append(all, opsRefusals(f)...)
}

func opsRefusals(f api.Frame) []func() api.Errno {
	return []func() api.Errno{
		func() api.Errno { return unless(isZero(f.Image), api.ErrForm) },
		func() api.Errno { return unless(len(f.Ops) <= api.MaxPush, api.ErrLong) },
		func() api.Errno { return checkOps(f.Ops) },
	}
}

func imageRefusals(f api.Frame) []func() api.Errno {
	return []func() api.Errno{
		func() api.Errno { return unless(len(f.Ops) == 0, api.ErrForm) },
		func() api.Errno { return image.Check(f.Image) },
		func() api.Errno { return unless(slices.Equal(f.Have, f.Image.Vector), api.ErrForm) },
	}
}

// unless is an error, but where something holds.
func unless(holds bool, err api.Errno) api.Errno {
	if holds {
		return api.OK
	}
	return err
}

func isKind(n int) bool { return n == api.FrameOps || n == api.FrameImage }

func isSite(n int) bool { return 1 <= n && n <= api.MaxSites }

func upTo(most, n int) bool { return 0 <= n && n <= most }

// isZero tells whether an image says nothing: lists count by their lengths, so that one without an element is as good as none.
func isZero(m api.Image) bool {
	says := [...]int{len(m.Vector), len(m.Base), m.Clock, len(m.Log), len(m.Nodes), len(m.Joined), len(m.Left), m.Epoch}
	nothing := says
	clear(nothing[:])
	return says == nothing
}

// checkOps tells why the first that is none is none.
func checkOps(ops []api.Op) api.Errno {
	for _, o := range ops {
		if err := op.Check(o); err != api.OK {
			return err
		}
	}
	return api.OK
}
