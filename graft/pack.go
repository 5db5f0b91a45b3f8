package graft

import "strings"

// Which letter a record begins with.
const (
	commitLetter = 'C'
	headLetter   = 'B'
	dropLetter   = 'D'
)

// Ahead of a record's bytes stand its letter and how many they are.
const bytesAhead = 3

// write puts a record of these parts at the end of the pack.
func (s *Store) write(letter byte, parts ...string) {
	s.pack = append(s.pack, record(letter, parts...)...)
}

// record answers a record of these parts, one behind the other. How many bytes
// they are always fits: the longest tree has less than 5000.
func record(letter byte, parts ...string) string {
	body := strings.Join(parts, "")
	r := bytesOf(int(letter), len(body)>>8, len(body)) + body
	return r + bytesOf(check(r))
}

// bytesOf answers a byte for each number: the lowest one it has.
func bytesOf(numbers ...int) string {
	var b strings.Builder
	for _, n := range numbers {
		b.WriteByte(byte(n))
	}
	return b.String()
}

// check answers what stands behind these bytes of a record.
func check(ahead string) int {
	sum := 1
	for i := range len(ahead) {
		sum += int(ahead[i])
	}
	return sum % 251
}

// firstRecord parts a pack behind its first record; false, if that is not
// whole, or its check is wrong.
func firstRecord(pack string) (string, string, bool) {
	if len(pack) < bytesAhead {
		return "", "", false
	}
	end := bytesAhead + int(pack[1])<<8 + int(pack[2])
	if len(pack) <= end || int(pack[end]) != check(pack[:end]) {
		return "", "", false
	}
	return pack[:end+1], pack[end+1:], true
}
