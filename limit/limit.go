// Package limit tells what a budget allows.
package limit

import "soffit/api"

// Boxes returns how many boxes a budget allows; false: it is invalid.
func Boxes(budget int) (int, bool) {
	if budget < api.Unlimited {
		return 0, false
	}
	if budget == api.Unlimited {
		return api.MaxBoxes, true
	}
	return min(budget, api.MaxBoxes), true
}
