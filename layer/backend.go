package layer

import (
	"parapet/agenda"
	"parapet/api"
	"parapet/fault"
)

// backendNumber stands where a layer has its number.
const backendNumber = -1

// blast is what the backend panics with.
type blast int

// numberOf tells the number of a panic: nothing but the backend panics.
func numberOf(blown any) int {
	n, _ := blown.(blast)
	return int(n)
}

// backend does for each client what its turns say.
type backend struct {
	common
	clients []api.Client
	had     []int
}

func newBackend(clients []api.Client, journal *Journal) Layer {
	return &backend{common: common{number: backendNumber, journal: journal}, clients: clients, had: make([]int, len(clients))}
}

// Enter takes the client's next turn; a turn that takes time can't be cancelled.
func (b *backend) Enter(t *agenda.Task) (int, error) {
	number, turn := b.next(t.Client())
	b.tell(t, api.EvBegan, number)
	if turn.Takes > 0 {
		t.Sleep(turn.Takes)
	}
	b.tell(t, api.EvEnded, number)
	switch turn.Kind {
	case api.TurnError:
		return b.fail(fault.Failed, turn.N)
	case api.TurnFinal:
		return b.fail(fault.Fatal, turn.N)
	case api.TurnPanic:
		panic(blast(turn.N))
	}
	return turn.N, nil
}

// next counts on behind the last turn too, where every turn is the same.
func (b *backend) next(client int) (int, api.Turn) {
	number := b.had[client]
	b.had[client]++
	if turns := b.clients[client].Turns; number < len(turns) {
		return number, turns[number]
	}
	return number, api.Turn{Kind: api.TurnValue}
}
