package member

import (
	"slices"

	"cabal/api"
	"cabal/chain"
	"cabal/frame"
	"cabal/graph"
	"cabal/ratchet"
	"cabal/roster"
	"cabal/secrets"
)

// draft is what an operation is composed of: of is the node that it acknowledges.
type draft struct {
	kind int
	who  []int
	of   api.Node
	text string
}

// seeded says whether an operation of the draft has a seed.
func (d draft) seeded() bool {
	return d.kind == api.OpCreate || d.kind == api.OpUpdate || d.kind == api.OpRemove
}

// compose composes an operation, adds it to the nodes and posts it. With an error, the state is of no use any more.
func (s *stepper) compose(d draft) api.Errno {
	o, e := s.outline(d)
	if e != api.OK {
		return e
	}
	var got []api.Key
	var seed api.Key
	if d.seeded() {
		seed = s.Draw(s.name("seed"))
		got = []api.Key{seed}
	}
	before, said := s.Keys, api.Keys{}
	if d.kind == api.OpSay {
		said, o.Text, e = chain.Seal(s, before, o, d.text)
	} else {
		o.Check, e = secrets.Check(s, before, s.Me, o, d.of.Op, got...)
	}
	if e != api.OK {
		return e
	}
	id := frame.Name(s, o)
	if e := s.fill(&o, id, d, seed); e != api.OK {
		return e
	}
	if s.Nodes, e = graph.Add(s.Nodes, id, o); e != api.OK {
		return e
	}
	if d.kind == api.OpSay {
		s.Keys = said
		s.Inbox = append(slices.Clone(s.Inbox), api.Letter{Id: id, Author: s.Me, Text: d.text})
	} else if s.Keys, e = secrets.Apply(s, before, s.Me, id, o, d.of.Op, got...); e != api.OK {
		return e
	}
	for _, b := range o.Boxes {
		s.post(api.Frame{Kind: api.FrameOp, Op: o}, b.To)
	}
	return api.OK
}

// outline is the operation of a draft, for all receivers, with something in place of its check or its text.
func (s *stepper) outline(d draft) (api.Op, api.Errno) {
	if d.kind == api.OpCreate && len(s.Nodes) > 0 {
		return api.Op{}, api.ErrThere
	}
	o := api.Op{Author: s.Me, Seq: 1, Parents: graph.Heads(s.Nodes), Kind: d.kind, Who: slices.Sorted(slices.Values(d.who)), Of: d.of.Id}
	for _, n := range s.Nodes {
		if n.Op.Author == s.Me {
			o.Seq++
		}
	}
	if d.kind == api.OpSay {
		o.Text = "x"
	} else {
		o.Check = api.Key{1}
	}
	to, e := roster.To(s.Nodes, o)
	if e != api.OK {
		return api.Op{}, e
	}
	for _, who := range to {
		if who >= s.Members {
			return api.Op{}, api.ErrArg
		}
		o.Boxes = append(o.Boxes, api.Box{To: who})
	}
	return o, api.OK
}

// fill fills the boxes of an operation.
func (s *stepper) fill(o *api.Op, id api.Key, d draft, seed api.Key) api.Errno {
	for i := range o.Boxes {
		b := &o.Boxes[i]
		content := secrets.Content(s.Keys, *o, d.of.Op, seed, b.To)
		session, head, body, e := ratchet.Send(s, s.Sessions[b.To], s.name("turn"), id, content...)
		if e != api.OK {
			return e
		}
		s.Sessions[b.To], b.Head, b.Body = session, head, body
	}
	return api.OK
}
