package table

import "strata/api"

// costOfCell is what a cell costs, beside its text.
const costOfCell = 8

// purse: how much of the budget is left.
type purse struct {
	left int
}

// pay takes the cost; false, if less is left.
func (p *purse) pay(cost int) bool {
	if cost > p.left {
		return false
	}
	p.left -= cost
	return true
}

// payCells pays for each cell and its text; false, if less is left.
func (p *purse) payCells(list []api.Cell) bool {
	for _, c := range list {
		if !p.pay(costOfCell + len(c.S)) {
			return false
		}
	}
	return true
}
