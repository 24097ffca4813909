package peer

import "hearsay/api"

// Behind is a new Peer that gave its numbers up to last, all of which were acknowledged. Without it there is no way to many Peers near MaxNum but through all numbers below.
func Behind(window, push, last int) (*Peer, api.Errno) {
	p, err := New(window, push)
	if err == api.OK {
		p.last = last
	}
	return p, err
}
