package judges

import (
	"slices"

	"salchow/api"
)

// Conflict reports whether a judge has a conflict of interest with a federation.
func Conflict(j api.Judge, federation string) bool {
	return j.Federation == federation || slices.Contains(j.Conflicts, federation)
}

// Eligible reports whether a judge may judge competitors of the given federations on a panel that requires a category.
func Eligible(j api.Judge, federations []string, category int) bool {
	return j.Category <= category && len(asked(federations).conflicts(j)) == 0
}

// Panel returns the names of the judges that are eligible, sorted.
func Panel(list []api.Judge, federations []string, category int) []string {
	q := asked(federations)
	var names []string
	for _, j := range list {
		if j.Category <= category && len(q.conflicts(j)) == 0 {
			names = append(names, j.Name)
		}
	}
	return names
}

// Blocked returns, for each of the federations, the names of the judges that would be eligible without it but are not, sorted.
func Blocked(list []api.Judge, federations []string, category int) [][]string {
	q := asked(federations)
	names := map[string][]string{} // by the only federation that the judges have a conflict with
	for _, j := range list {
		if against := q.conflicts(j); j.Category <= category && len(against) == 1 {
			names[against[0]] = append(names[against[0]], j.Name)
		}
	}
	var blocked [][]string
	for _, f := range federations {
		blocked = append(blocked, slices.Clone(names[f]))
	}
	return blocked
}

// question is the set of the federations that are asked for.
type question map[string]bool

// asked returns the question for federations.
func asked(federations []string) question {
	q := question{}
	for _, f := range federations {
		q[f] = true
	}
	return q
}

// conflicts returns the federations that are asked for and that a judge has a conflict with, each once.
func (q question) conflicts(j api.Judge) []string {
	var against []string
	if q[j.Federation] {
		against = append(against, j.Federation)
	}
	for _, f := range j.Conflicts {
		if q[f] {
			against = append(against, f)
		}
	}
	return against
}
