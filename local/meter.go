package local

// meter counts steps against a budget.
type meter struct{ used, budget int }

// left is how many steps there may still be.
func (m *meter) left() int { return m.budget - m.used }

// spend counts some steps. It counts none of them, and answers false, if they are too many.
func (m *meter) spend(steps int) bool {
	if steps > m.left() {
		return false
	}
	m.used += steps
	return true
}
