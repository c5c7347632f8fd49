package world

import (
	"cabal/api"
	"cabal/deep"
	"cabal/foe"
	"cabal/frame"
	"cabal/member"
	"cabal/vault"
)

// handlers are what acts do, by kind.
func handlers() map[int]func(*World, api.Act) api.Errno {
	return map[int]func(*World, api.Act) api.Errno{
		api.ActStep:   (*World).step,
		api.ActFetch:  (*World).fetch,
		api.ActDrop:   (*World).drop,
		api.ActDouble: (*World).double,
		api.ActMove:   (*World).move,
		api.ActFuse:   (*World).fuse,
		api.ActCrash:  (*World).crash,
		api.ActStart:  (*World).start,
		api.ActLeak:   (*World).leak,
		api.ActCook:   (*World).cook,
		api.ActForge:  (*World).forge,
		api.ActReplay: (*World).replay,
	}
}

// Do lets something happen.
func (w *World) Do(a api.Act) api.Errno {
	if w == nil {
		return api.ErrArg
	}
	w.acts++
	handler, known := handlers()[a.Kind]
	switch {
	case !known:
		return api.ErrArg
	case a.Kind != api.ActCook && !w.has(a.Who):
		return api.ErrNone
	case needsLife(a.Kind) && !w.people[a.Who].up:
		return api.ErrDead
	}
	return handler(w, a)
}

// needsLife says whether a kind of acts needs a member that is up.
func needsLife(kind int) bool {
	switch kind {
	case api.ActStep, api.ActFetch, api.ActCrash, api.ActLeak, api.ActForge, api.ActReplay:
		return true
	}
	return false
}

func (w *World) step(a api.Act) api.Errno {
	if a.In.Kind == api.InTake {
		return api.ErrArg
	}
	e := w.doInput(a.Who, a.In)
	if e == api.OK && a.In.Kind == api.InSay {
		inbox := w.people[a.Who].vault.Member().Inbox
		last := inbox[len(inbox)-1]
		w.said = append(w.said, api.Said{Id: last.Id, Author: last.Author, Text: last.Text, At: w.acts})
	}
	return e
}

// doInput lets a member do something; if its disk fails at that, it is down.
func (w *World) doInput(who int, in api.Input) api.Errno {
	p := &w.people[who]
	before := p.vault.Member()
	posts, e := p.vault.Do(in)
	if p.disk.Dead() {
		p.up = false
	}
	w.note(who, before)
	w.post(posts)
	return e
}

// note records the operations that a member added as its own since it was as before.
func (w *World) note(who int, before api.Member) {
	nodes := w.people[who].vault.Member().Nodes
	for _, n := range nodes[min(len(before.Nodes), len(nodes)):] {
		if n.Op.Author == who {
			w.composed = append(w.composed, api.Node{Id: n.Id, Op: deep.Op(n.Op)})
		}
	}
}

// come lets a frame come to a member.
func (w *World) come(who int, bytes string) api.Errno {
	f, e := frame.Read(bytes)
	if e != api.OK {
		return e
	}
	return w.doInput(who, api.Input{Kind: api.InTake, Frame: f})
}

func (w *World) fetch(a api.Act) api.Errno {
	if !w.hasRelay(a.Relay) {
		return api.ErrNone
	}
	bytes, e := w.relays[a.Relay].Take(a.Who, a.N)
	if e != api.OK {
		return e
	}
	return w.come(a.Who, bytes)
}

func (w *World) drop(a api.Act) api.Errno {
	if !w.hasRelay(a.Relay) {
		return api.ErrNone
	}
	return w.relays[a.Relay].Drop(a.Who, a.N)
}

func (w *World) double(a api.Act) api.Errno {
	if !w.hasRelay(a.Relay) {
		return api.ErrNone
	}
	return w.relays[a.Relay].Double(a.Who, a.N)
}

func (w *World) move(a api.Act) api.Errno {
	if !w.hasRelay(a.Relay) {
		return api.ErrNone
	}
	return w.relays[a.Relay].Move(a.Who, a.N, 0)
}

func (w *World) fuse(a api.Act) api.Errno {
	w.people[a.Who].disk.Fuse(a.N)
	return api.OK
}

func (w *World) crash(a api.Act) api.Errno {
	w.people[a.Who].up = false
	return api.OK
}

func (w *World) start(a api.Act) api.Errno {
	p := &w.people[a.Who]
	if p.up {
		return api.ErrThere
	}
	p.disk.Crash(a.Keep...)
	v, e := vault.Open(w.kit, p.disk)
	if e != api.OK {
		return e
	}
	before := p.vault.Member()
	p.vault, p.up = v, true
	w.note(a.Who, before)
	return api.OK
}

func (w *World) leak(a api.Act) api.Errno {
	if w.real() {
		return api.ErrArg
	}
	w.see(member.Keys(w.people[a.Who].vault.Member())...)
	w.leaks = append(w.leaks, api.Leak{Who: a.Who, At: w.acts})
	return api.OK
}

func (w *World) cook(a api.Act) api.Errno {
	if w.real() {
		return api.ErrArg
	}
	w.made = foe.More(w.free, w.seen, w.made, a.Cook)
	return api.OK
}

func (w *World) forge(a api.Act) api.Errno {
	if w.real() {
		return api.ErrArg
	}
	if _, e := frame.Write(a.Frame); e != api.OK {
		return api.ErrArg
	}
	foe.Keys(w.free, a.Frame) // so that the terms of its marks exist
	if !foe.Fair(w.free, w.Follows(), a.Frame) {
		return api.ErrStranger
	}
	return w.doInput(a.Who, api.Input{Kind: api.InTake, Frame: a.Frame})
}

func (w *World) replay(a api.Act) api.Errno {
	if a.N < 0 || a.N >= len(w.frames) {
		return api.ErrNone
	}
	return w.come(a.Who, w.frames[a.N])
}
