package world

import "hearsay/replica"

// Lay lets a site say something that is made by hand. Without it no script leads to a copy to a site that there is not, nor to a clean one that is refused.
func Lay(w *World, from, to int, data []byte) {
	w.layOut(from, []replica.Out{{To: to, Data: data}})
}
