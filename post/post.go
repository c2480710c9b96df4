// Package post is how one message is put on its way. Notes (package world) and doubled messages (package step) go by the same rule.
package post

import (
	"gavotte/api"
	"gavotte/mail"
)

// Put puts a message on its way to an actor that p and w have; if there is no room, or its ID is there already, it is counted as that one's Over. A message to nobody is left out. It writes into a world that is the caller's own.
func Put(p api.Program, w *api.World, m api.Message) {
	to := m.Note.To
	if to < 0 || to >= len(p.Actors) || to >= len(w.Actors) {
		return
	}
	if mail.To(w.Mail, to) < p.Actors[to].Cap {
		if l, e := mail.Put(w.Mail, m); e == api.OK {
			w.Mail = l
			return
		}
	}
	w.Actors[to].Over++
}
