// Package wire is layer 1: numbers, strings and lists as bytes, and back.
package wire

// PutUint returns the encoding of a number.
func PutUint(n uint64) string {
	return string(addUint(nil, n))
}

// PutText returns the encoding of a string.
func PutText(s string) string {
	return string(addText(nil, s))
}

// PutNums returns the encoding of a list of numbers.
func PutNums(l []uint64) string {
	b := addUint(nil, uint64(len(l)))
	for _, n := range l {
		b = addUint(b, n)
	}
	return string(b)
}

// PutList returns the encoding of a list of strings.
func PutList(l []string) string {
	b := addUint(nil, uint64(len(l)))
	for _, s := range l {
		b = addText(b, s)
	}
	return string(b)
}

// TakeUint returns the number with whose encoding s begins, and what follows it.
func TakeUint(s string) (uint64, string, bool) {
	n := uint64(0)
	for i := 0; i < len(s) && i < 10; i++ {
		c := s[i]
		n |= uint64(c%128) << (7 * i)
		if c >= 128 {
			continue
		}
		// A last byte 0 would be a second encoding of a number that has a shorter one;
		// nine bytes hold 63 bits, so that a tenth one has room for one bit more.
		if i > 0 && c == 0 || i == 9 && c > 1 {
			return 0, "", false
		}
		return n, s[i+1:], true
	}
	return 0, "", false
}

// TakeText returns the string of at most most bytes with whose encoding s begins, and what follows it.
func TakeText(s string, most int) (string, string, bool) {
	n, rest, ok := takeCount(s, most)
	if !ok {
		return "", "", false
	}
	return rest[:n], rest[n:], true
}

// TakeNums returns the list of at most most numbers with whose encoding s begins, and what follows it.
func TakeNums(s string, most int) ([]uint64, string, bool) {
	return takeMany(s, most, TakeUint)
}

// TakeList returns the list of at most most strings with whose encoding s begins, and what follows it.
func TakeList(s string, most int) ([]string, string, bool) {
	return takeMany(s, most, takeAnyText)
}

func addUint(b []byte, n uint64) []byte {
	for n >= 128 {
		b = append(b, byte(n%128)+128)
		n /= 128
	}
	return append(b, byte(n))
}

func addText(b []byte, s string) []byte {
	b = addUint(b, uint64(len(s)))
	return append(b, s...)
}

// takeCount takes a count of at most most. Whatever is counted takes a byte or more,
// so a count above the number of bytes left can be refused at once: it then fits an int.
func takeCount(s string, most int) (int, string, bool) {
	n, rest, ok := TakeUint(s)
	if !ok || most < 0 || n > uint64(most) || n > uint64(len(rest)) {
		return 0, "", false
	}
	return int(n), rest, true
}

// takeAnyText takes a string of any length: none is longer than what holds it.
func takeAnyText(s string) (string, string, bool) {
	return TakeText(s, len(s))
}

// takeMany lets the list grow with what is taken: a count alone, which may be false, gets no memory.
func takeMany[T any](s string, most int, take func(string) (T, string, bool)) ([]T, string, bool) {
	n, rest, ok := takeCount(s, most)
	if !ok {
		return nil, "", false
	}
	var l []T
	for range n {
		var x T
		x, rest, ok = take(rest)
		if !ok {
			return nil, "", false
		}
		l = append(l, x)
	}
	return l, rest, true
}
