// Package deep copies what has lists inside: a copy shares no memory with what it is of.
package deep

import (
	"slices"

	"cabal/api"
)

// Op is a copy of an operation.
func Op(o api.Op) api.Op {
	o.Parents = slices.Clone(o.Parents)
	o.Who = slices.Clone(o.Who)
	o.Boxes = slices.Clone(o.Boxes)
	return o
}

// Frame is a copy of a frame.
func Frame(f api.Frame) api.Frame {
	f.Op = Op(f.Op)
	f.Ids = slices.Clone(f.Ids)
	return f
}

// Nodes is a copy of a graph.
func Nodes(l []api.Node) []api.Node {
	return each(l, func(n api.Node) api.Node {
		return api.Node{Id: n.Id, Op: Op(n.Op), Past: slices.Clone(n.Past)}
	})
}

// Held is a copy of a queue.
func Held(l []api.Held) []api.Held {
	return each(l, func(h api.Held) api.Held {
		return api.Held{Id: h.Id, Op: Op(h.Op), Got: slices.Clone(h.Got)}
	})
}

// Keys is a copy of what somebody knows of keys.
func Keys(s api.Keys) api.Keys {
	s.Waits = slices.Clone(s.Waits)
	return s
}

// Member is a copy of a member.
func Member(s api.Member) api.Member {
	for i := range s.Sessions {
		s.Sessions[i].Skips = slices.Clone(s.Sessions[i].Skips)
	}
	s.Nodes = Nodes(s.Nodes)
	s.Keys = Keys(s.Keys)
	s.Held = Held(s.Held)
	s.Inbox = slices.Clone(s.Inbox)
	return s
}

// each is a list of the copies of a list's elements.
func each[T any](l []T, copied func(T) T) []T {
	out := make([]T, len(l))
	for i, x := range l {
		out[i] = copied(x)
	}
	return out
}
