// Package goal tells whether values satisfy a duty.
package goal

import (
	"soffit/api"
	"soffit/match"
)

// Known returns the values of a model's inputs and decisions by their names.
func Known(m api.Model, inputs, decided []api.Value) map[string]api.Value {
	known := map[string]api.Value{}
	for i, in := range m.Inputs {
		known[in.Name] = inputs[i]
	}
	for i, d := range m.Decisions {
		known[d.Name] = decided[i]
	}
	return known
}

// Met reports whether known values satisfy a duty of a sound model.
func Met(m api.Model, d api.Duty, known map[string]api.Value) bool {
	table := m.Decisions[d.Decision]
	if d.Kind == api.Boundary {
		return known[table.Columns[d.Cell]] == d.Value // a sound value has only one form
	}
	for i, cell := range table.Rules[d.Rule].Cells {
		holds, _ := match.All(cell, known[table.Columns[i]]) // both are sound
		if want := d.Kind == api.Fires || i != d.Cell; holds != want {
			return false
		}
	}
	return true
}
