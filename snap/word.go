package snap

// word is a whole number's bytes, the highest one first.
type word [8]byte

func wordOf(n uint64) word {
	var w word
	for i := range w {
		w[len(w)-1-i] = byte(n >> (8 * i))
	}
	return w
}

func (w word) number() uint64 {
	n := uint64(0)
	for _, b := range w {
		n = n<<8 | uint64(b)
	}
	return n
}

// putCount lays into s as many of n's lowest bytes as it has room for: a count that may be needs no others.
func putCount(s []byte, n int) {
	w := wordOf(uint64(n))
	copy(s, w[len(w)-len(s):])
}

// getCount is the number whose lowest bytes are s, and that has no others.
func getCount(s string) int {
	var w word
	copy(w[len(w)-len(s):], s)
	return int(w.number())
}
