package member

import (
	"slices"

	"cabal/api"
	"cabal/chain"
	"cabal/graph"
	"cabal/queue"
	"cabal/roster"
	"cabal/secrets"
)

// proceed applies what is held as long as something is ready.
func (s *stepper) proceed() {
	for at := queue.Ready(s.Nodes, s.Held); at >= 0; at = queue.Ready(s.Nodes, s.Held) {
		h := s.Held[at]
		s.Held, _ = queue.Without(s.Held, at)
		s.try(func() api.Errno { return s.apply(h) })
	}
}

// try does something that has no effect if it fails.
func (s *stepper) try(f func() api.Errno) {
	before := *s
	if f() != api.OK {
		*s = before
	}
}

// apply applies an operation that was held.
func (s *stepper) apply(h api.Held) api.Errno {
	to, e := roster.To(s.Nodes, h.Op)
	if e != api.OK {
		return e
	}
	if !slices.EqualFunc(h.Op.Boxes, to, func(b api.Box, who int) bool { return b.To == who }) {
		return api.ErrBoxes
	}
	of, e := s.acknowledged(h.Op)
	if e != api.OK {
		return e
	}
	if s.Nodes, e = graph.Add(s.Nodes, h.Id, h.Op); e != api.OK {
		return e
	}
	if _, mine := boxFor(h.Op, s.Me); mine && h.Op.Kind == api.OpSay {
		e = s.hear(h)
	} else {
		s.Keys, e = secrets.Apply(s, s.Keys, s.Me, h.Id, h.Op, of.Op, h.Got...)
	}
	if e != api.OK {
		return e
	}
	s.respond(h)
	return api.OK
}

// hear takes a message.
func (s *stepper) hear(h api.Held) api.Errno {
	keys, text, e := chain.Open(s, s.Keys, h.Op)
	if e != api.OK {
		return e
	}
	s.Keys = keys
	s.Inbox = append(slices.Clone(s.Inbox), api.Letter{Id: h.Id, Author: h.Op.Author, Text: text})
	return api.OK
}

// acknowledged is the node that an operation acknowledges, if it does so, and may.
func (s *stepper) acknowledged(o api.Op) (api.Node, api.Errno) {
	if o.Kind != api.OpAck && o.Kind != api.OpAddAck {
		return api.Node{}, api.OK
	}
	past, e := graph.Past(s.Nodes, o.Parents...)
	if e != api.OK {
		return api.Node{}, e
	}
	at := graph.Find(s.Nodes, o.Of)
	if !slices.Contains(past, at) {
		return api.Node{}, api.ErrMissing
	}
	again := slices.ContainsFunc(past, func(i int) bool {
		x := s.Nodes[i].Op
		return x.Author == o.Author && x.Kind == o.Kind && x.Of == o.Of
	})
	if again || !permitted(o, s.Nodes[at].Op) {
		return api.Node{}, api.ErrRight
	}
	return s.Nodes[at], api.OK
}

// permitted says whether an OpAck or OpAddAck may acknowledge an operation.
func permitted(o, of api.Op) bool {
	_, mine := boxFor(of, o.Author)
	adds := of.Kind == api.OpAdd && slices.Contains(of.Who, o.Author)
	switch {
	case o.Kind == api.OpAddAck:
		return of.Kind == api.OpAdd && !adds && mine
	case of.Kind == api.OpCreate, of.Kind == api.OpRemove, of.Kind == api.OpUpdate:
		return mine
	}
	return adds
}

// respond composes what an operation that was applied asks for.
func (s *stepper) respond(h api.Held) {
	_, mine := boxFor(h.Op, s.Me)
	d := draft{kind: api.OpAck, of: api.Node{Id: h.Id, Op: h.Op}}
	switch h.Op.Kind {
	case api.OpAck, api.OpAddAck, api.OpSay:
		return
	case api.OpAdd:
		if !slices.Contains(h.Op.Who, s.Me) {
			d.kind = api.OpAddAck
		}
	case api.OpRemove:
		if !mine { // the one who is out may know how this member's messages are encrypted
			s.try(func() api.Errno { return s.compose(draft{kind: api.OpUpdate}) })
			return
		}
	}
	if mine {
		s.try(func() api.Errno { return s.compose(d) })
	}
}
