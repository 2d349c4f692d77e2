// Package fault: the errors that come back out of a layer or the backend.
package fault

import (
	"errors"
	"strconv"

	"parapet/api"
)

// Kind of a link. It is an error itself, so that errors.Is can ask a chain for it.
type Kind int

const (
	Failed    Kind = api.LinkFailed
	Fatal     Kind = api.LinkFatal
	Refused   Kind = api.LinkRefused
	Late      Kind = api.LinkLate
	Cancelled Kind = api.LinkCancelled
	Caught    Kind = api.LinkCaught
	GaveUp    Kind = api.LinkGaveUp
)

func (k Kind) Error() string {
	switch k {
	case Failed:
		return "failed"
	case Fatal:
		return "fatal"
	case Refused:
		return "refused"
	case Late:
		return "late"
	case Cancelled:
		return "cancelled"
	case Caught:
		return "caught"
	case GaveUp:
		return "gave up"
	}
	return "link " + strconv.Itoa(int(k))
}

// Link is an error: the outermost link of its chain, with the error behind it.
type Link struct {
	kind     Kind
	layer, n int
	behind   error
}

// New makes a link that is the last in its chain.
func New(kind Kind, layer, n int) error {
	return &Link{kind: kind, layer: layer, n: n}
}

// Wrap makes the link of a layer that gave up at an error.
func Wrap(layer int, behind error) error {
	return &Link{kind: GaveUp, layer: layer, behind: behind}
}

func (l *Link) Error() string {
	text := l.kind.Error() + " " + strconv.Itoa(l.n) + " in layer " + strconv.Itoa(l.layer)
	if l.behind != nil {
		text += ": " + l.behind.Error()
	}
	return text
}

// Is answers errors.Is, when it asks for a kind.
func (l *Link) Is(target error) bool { return target == l.kind }

// Unwrap answers errors.Is and errors.As, when they look behind the link.
func (l *Link) Unwrap() error { return l.behind }

// Chain tells the links of an error, the outermost first, in new memory.
func Chain(err error) []api.Link {
	var chain []api.Link
	var link *Link
	for errors.As(err, &link) {
		chain = append(chain, api.Link{Kind: int(link.kind), Layer: link.layer, N: link.n})
		err = link.behind
	}
	return chain
}
