package parapet

import "parapet/api"

// firstBadLayer is the number of layers, if none is bad.
func firstBadLayer(layers []api.Layer) int {
	retries := 0
	for i, l := range layers {
		if l.Kind == api.Retry {
			retries++
		}
		if retries > api.MaxRetries || !goodLayer(l) {
			return i
		}
	}
	return len(layers)
}

func goodLayer(l api.Layer) bool {
	switch l.Kind {
	case api.Retry:
		return between(1, l.A, 9) && between(0, l.B, api.MaxTime) && between(1, l.C, 9) && between(0, l.D, api.MaxPause)
	case api.Guard:
		return true
	case api.Rate:
		return between(1, l.A, api.MaxTime) && between(1, l.B, 20)
	case api.Breaker:
		return between(1, l.A, 20) && between(1, l.B, l.A) && between(1, l.C, 100) && between(0, l.D, api.MaxTime) && between(1, l.E, 9)
	case api.Room:
		return between(1, l.A, 9) && between(0, l.B, api.MaxTime)
	case api.Limit:
		return between(1, l.A, api.MaxTime)
	}
	return false
}

// firstBadClient is the number of clients, if none is bad.
func firstBadClient(clients []api.Client) int {
	for i, c := range clients {
		if !goodClient(c) {
			return i
		}
	}
	return len(clients)
}

func goodClient(c api.Client) bool {
	if !between(0, c.Start, api.MaxTime) || len(c.Turns) > api.MaxTurns {
		return false
	}
	for _, t := range c.Turns {
		if !between(api.TurnValue, t.Kind, api.TurnPanic) || !between(0, t.Takes, api.MaxTime) {
			return false
		}
	}
	return true
}

func between(least, n, most int) bool { return least <= n && n <= most }
