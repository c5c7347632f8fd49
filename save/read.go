package save

import (
	"cabal/api"
	"cabal/frame"
	"cabal/graph"
	"cabal/wire"
)

// Read is the member of bytes.
func Read(b string) (s api.Member, e api.Errno) {
	defer func() {
		if recover() != nil {
			s, e = api.Member{}, api.ErrForm
		}
	}()
	s = reader{wire.NewReader(b)}.member()
	again, e := Write(s)
	return s, sure(again, e, b)
}

// ReadInput is the input of bytes.
func ReadInput(b string) (in api.Input, e api.Errno) {
	defer func() {
		if recover() != nil {
			in, e = api.Input{}, api.ErrForm
		}
	}()
	in = reader{wire.NewReader(b)}.input()
	again, e := WriteInput(in)
	return in, sure(again, e, b)
}

// sure gives up unless what was read is written as the same bytes: each value has just one form.
func sure(again string, e api.Errno, b string) api.Errno {
	if e != api.OK || again != b {
		panic(api.ErrForm)
	}
	return api.OK
}

// reader reads parts of members, and panics where it can't go on.
type reader struct{ *wire.Reader }

// check gives up if a read failed.
func (r reader) check() {
	if e := r.End(); e != api.OK && e != api.ErrMore {
		panic(e)
	}
}

func (r reader) number() uint32 {
	n := r.Number()
	r.check()
	return n
}

func (r reader) key() api.Key {
	k := r.Key()
	r.check()
	return k
}

func (r reader) text(most int) string {
	s := r.Text(most)
	r.check()
	return s
}

// list reads a list of what a function reads one by one.
func list[T any](r reader, most int, read func(r reader) T) []T {
	n := int64(r.number())
	if n > int64(most) {
		panic(api.ErrMany)
	}
	var l []T
	for range n {
		l = append(l, read(r))
	}
	return l
}

// fixed reads as many as an array has.
func fixed[T any](r reader, l []T, read func(r reader) T) {
	for i := range l {
		l[i] = read(r)
	}
}

func (r reader) member() api.Member {
	var s api.Member
	s.Me = int(r.number())
	s.Members = int(r.number())
	s.Draws = r.number()
	fixed(r, s.Ids[:], reader.key)
	fixed(r, s.Pres[:], reader.key)
	fixed(r, s.Sessions[:], reader.session)
	s.Nodes = behind(list(r, api.MaxOps, reader.node))
	fixed(r, s.Keys.Ratchets[:], reader.ratchet)
	s.Keys.Waits = list(r, api.MaxWaits, reader.wait)
	s.Held = list(r, api.MaxHeld, reader.held)
	s.Inbox = list(r, api.MaxOps, reader.letter)
	return s
}

func (r reader) session() api.Session {
	var x api.Session
	for _, k := range []*api.Key{&x.Mine, &x.Theirs, &x.Root, &x.Send, &x.Recv} {
		*k = r.key()
	}
	x.Ns = r.number()
	x.Nr = r.number()
	x.Pn = r.number()
	x.Turn = r.number() == 1
	x.Skips = list(r, api.MaxSkip, reader.skip)
	return x
}

func (r reader) skip() api.Skip {
	var x api.Skip
	x.Pub = r.key()
	x.N = r.number()
	x.Key = r.key()
	return x
}

func (r reader) op() api.Op {
	f, e := frame.Read(r.text(r.Left()))
	if e != api.OK {
		panic(e)
	}
	return f.Op
}

func (r reader) node() api.Node {
	id := r.key()
	return api.Node{Id: id, Op: r.op()}
}

// behind are nodes that know what is ahead of them.
func behind(l []api.Node) []api.Node {
	for i, n := range l {
		past, e := graph.Past(l[:i], n.Op.Parents...)
		if e != api.OK {
			panic(e)
		}
		l[i].Past = past
	}
	return l
}

func (r reader) ratchet() api.Ratchet {
	var x api.Ratchet
	flags := r.number()
	x.Known, x.Lost = flags&1 != 0, flags&2 != 0
	x.Key = r.key()
	x.Chain = r.key()
	return x
}

func (r reader) wait() api.Wait {
	var x api.Wait
	x.Of = r.key()
	x.Who = int(r.number())
	x.Key = r.key()
	return x
}

func (r reader) held() api.Held {
	var h api.Held
	h.Id = r.key()
	h.Op = r.op()
	h.Got = list(r, api.MaxIds, reader.key)
	return h
}

func (r reader) letter() api.Letter {
	var l api.Letter
	l.Id = r.key()
	l.Author = int(r.number())
	l.Text = r.text(api.MaxText)
	return l
}

func (r reader) input() api.Input {
	var in api.Input
	in.Kind = int(r.number())
	in.Who = list(r, api.MaxMembers, func(r reader) int { return int(r.number()) })
	in.Text = r.text(api.MaxText)
	bytes := r.text(r.Left())
	if in.Kind == api.InTake {
		f, e := frame.Read(bytes)
		if e != api.OK {
			panic(e)
		}
		in.Frame = f
	}
	return in
}
