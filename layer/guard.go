package layer

import (
	"parapet/agenda"
	"parapet/api"
	"parapet/fault"
)

// guard makes an error of a panic (P8).
type guard struct {
	common
}

func (g *guard) Enter(t *agenda.Task) (n int, err error) {
	defer func() {
		if blown := recover(); blown != nil {
			number := numberOf(blown)
			g.tell(t, api.EvCaught, number)
			n, err = g.fail(fault.Caught, number)
		}
	}()
	return g.within.Enter(t)
}
