package fault

import (
	"errors"
	"reflect"
	"testing"

	"parapet/api"
)

func TestChainIsToldFromTheOutside(t *testing.T) {
	err := Wrap(0, Wrap(2, New(Failed, -1, 7)))
	want := []api.Link{{Kind: api.LinkGaveUp, Layer: 0}, {Kind: api.LinkGaveUp, Layer: 2}, {Kind: api.LinkFailed, Layer: -1, N: 7}}
	if got := Chain(err); !reflect.DeepEqual(got, want) {
		t.Errorf("chain %v, want %v", got, want)
	}
	if got := Chain(nil); len(got) != 0 {
		t.Errorf("chain of no error: %v", got)
	}
	if got := Chain(errors.New("another")); len(got) != 0 {
		t.Errorf("chain of an error that has no links: %v", got)
	}
}

func TestChainIsNewMemory(t *testing.T) {
	err := Wrap(1, New(Caught, 3, 4))
	Chain(err)[0].Layer = 9
	if got := Chain(err)[0].Layer; got != 1 {
		t.Errorf("a change of one chain is seen in the next: %d", got)
	}
}

func TestErrorsAreAskedForTheirKinds(t *testing.T) {
	kinds := []Kind{Failed, Fatal, Refused, Late, Cancelled, Caught}
	for _, has := range kinds {
		for _, err := range []error{New(has, 0, 1), Wrap(0, Wrap(1, New(has, 2, 1)))} {
			for _, asked := range kinds {
				if got := errors.Is(err, asked); got != (has == asked) {
					t.Errorf("%v: is it %v: %v", err, asked, got)
				}
			}
		}
	}
	if errors.Is(New(Failed, 0, 0), GaveUp) || !errors.Is(Wrap(0, New(Failed, 0, 0)), GaveUp) {
		t.Error("GaveUp is told of the wrong error")
	}
}

func TestErrorsAreAskedForTheirLinks(t *testing.T) {
	var link *Link
	if !errors.As(Wrap(4, New(Failed, -1, 7)), &link) || link.kind != GaveUp || link.layer != 4 {
		t.Errorf("the outermost link is %v", link)
	}
	if !errors.As(link.Unwrap(), &link) || link.kind != Failed || link.n != 7 || link.Unwrap() != nil {
		t.Errorf("the last link is %v", link)
	}
}

func TestTexts(t *testing.T) {
	if got, want := Wrap(1, New(Failed, -1, 7)).Error(), "gave up 0 in layer 1: failed 7 in layer -1"; got != want {
		t.Errorf("%q, want %q", got, want)
	}
	seen := map[string]Kind{}
	for k := Kind(0); k < 9; k++ {
		if other, ok := seen[k.Error()]; ok {
			t.Errorf("kinds %d and %d have the same text", other, k)
		}
		seen[k.Error()] = k
	}
}
