package segment

import "salchow/api"

// Marks returns how many different marks a judge of the panel can give.
func Marks(p api.Panel) int {
	if p.Step < 1 || p.Lo < -api.MaxMilli || p.Lo > p.Hi || p.Hi > api.MaxMilli {
		return 0
	}
	return int((p.Hi-p.Lo)/p.Step) + 1
}

// Mark returns the mark with a number from 0 on, in increasing order.
func Mark(p api.Panel, i int) (int64, api.Errno) {
	if i < 0 || i >= Marks(p) {
		return 0, api.ErrRange
	}
	return p.Lo + int64(i)*p.Step, api.OK
}

// OnGrid reports whether a judge of the panel can give a mark.
func OnGrid(p api.Panel, mark int64) bool {
	nearest, e := Nearest(p, mark)
	return e == api.OK && nearest == mark
}

// Nearest returns the mark on the grid that is nearest to a number; of two equally near ones the lesser one.
func Nearest(p api.Panel, n int64) (int64, api.Errno) {
	greatest, e := Mark(p, Marks(p)-1)
	if e != api.OK {
		return 0, e
	}
	// Between the least and the greatest mark, the distances are too short for an overflow.
	n = min(max(n, p.Lo), greatest)
	above := (n - p.Lo) % p.Step
	if above > p.Step-above {
		return n - above + p.Step, api.OK
	}
	return n - above, api.OK
}
