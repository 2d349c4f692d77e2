// Package parapet: layers between many callers and a service that may fail, hang or blow up: see DOC.md.
package parapet

import (
	"parapet/agenda"
	"parapet/api"
	"parapet/layer"
)

// Check tells whether layers and clients are some (P3).
func Check(layers []api.Layer, clients []api.Client) (api.Errno, int) {
	if len(layers) > api.MaxLayers {
		return api.ErrLayers, 0
	}
	if at := firstBadLayer(layers); at < len(layers) {
		return api.ErrLayer, at
	}
	if len(clients) > api.MaxClients {
		return api.ErrClients, 0
	}
	if at := firstBadClient(clients); at < len(clients) {
		return api.ErrClient, at
	}
	return api.OK, 0
}

// Run tells what happens when all clients call (P4 to P13).
func Run(layers []api.Layer, clients []api.Client) (api.Report, api.Errno, int) {
	if e, at := Check(layers, clients); e != api.OK {
		return api.Report{}, e, at
	}
	var journal layer.Journal
	outermost := layer.Stack(layers, clients, &journal)
	outcomes := make([]api.Outcome, len(clients))
	tasks := agenda.New()
	for i, c := range clients {
		tasks.Begin(i, c.Start, func(t *agenda.Task) { outcomes[i] = layer.Call(outermost, t) })
	}
	tasks.Run()
	return api.Report{Outcomes: outcomes, Events: journal.Events}, api.OK, 0
}
