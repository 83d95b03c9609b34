package catalog

import "salchow/api"

// Distance returns the least number of bytes to insert, delete and replace that makes b from a.
func Distance(a, b string) int {
	if len(a) < len(b) {
		a, b = b, a
	}
	// The row has the distances of the beginning of a that was read from all beginnings of b, the shorter string.
	row := make([]int, len(b)+1)
	for j := range row {
		row[j] = j
	}
	for i := range len(a) {
		diagonal := row[0]
		row[0] = i + 1
		for j := range len(b) {
			replaced := diagonal
			if a[i] != b[j] {
				replaced++
			}
			diagonal = row[j+1]
			row[j+1] = min(replaced, row[j]+1, row[j+1]+1)
		}
	}
	return row[len(b)]
}

// Closest returns the codes with the least distance from a string, sorted.
func Closest(c api.Catalog, s string) []string {
	var closest []string
	least := 0
	for _, element := range c.Elements {
		distance := Distance(s, element.Code)
		if len(closest) == 0 || distance < least {
			closest, least = nil, distance
		}
		if distance == least {
			closest = append(closest, element.Code)
		}
	}
	return closest
}
