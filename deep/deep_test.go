package deep_test

import (
	"reflect"
	"testing"

	"cabal/api"
	"cabal/deep"
)

func op() api.Op {
	return api.Op{Author: 1, Parents: []api.Key{{1}}, Who: []int{2}, Boxes: []api.Box{{To: 3}}}
}

func member() api.Member {
	s := api.Member{
		Me: 1, Nodes: []api.Node{{Op: op(), Past: []int{1}}}, Held: []api.Held{{Op: op(), Got: []api.Key{{4}}}},
		Inbox: []api.Letter{{Text: "t"}}, Keys: api.Keys{Waits: []api.Wait{{Who: 1}}},
	}
	s.Sessions[2].Skips = []api.Skip{{N: 5}}
	return s
}

// shared looks for memory that two values share.
func shared(t *testing.T, where string, a, b reflect.Value) {
	switch a.Kind() {
	case reflect.Slice:
		if a.Cap() > 0 && b.Cap() > 0 && a.Pointer() == b.Pointer() {
			t.Errorf("%s is shared", where)
		}
		fallthrough
	case reflect.Array:
		for i := range a.Len() {
			shared(t, where, a.Index(i), b.Index(i))
		}
	case reflect.Struct:
		for i := range a.NumField() {
			shared(t, where+"."+a.Type().Field(i).Name, a.Field(i), b.Field(i))
		}
	}
}

func TestCopies(t *testing.T) {
	s := member()
	f := api.Frame{Op: op(), Ids: []api.Key{{7}}}
	for _, x := range [][2]any{
		{s, deep.Member(s)}, {f, deep.Frame(f)}, {f.Op, deep.Op(f.Op)}, {s.Nodes, deep.Nodes(s.Nodes)}, {s.Held, deep.Held(s.Held)}, {s.Keys, deep.Keys(s.Keys)},
	} {
		if !reflect.DeepEqual(x[0], x[1]) {
			t.Errorf("%v is copied as %v", x[0], x[1])
		}
		shared(t, reflect.TypeOf(x[0]).String(), reflect.ValueOf(x[0]), reflect.ValueOf(x[1]))
	}
	if len(deep.Nodes(nil)) != 0 || len(deep.Held(nil)) != 0 {
		t.Error("nothing is copied as something")
	}
}
