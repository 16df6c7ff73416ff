package widths

const (
	most    = 1000     // the greatest width that is told
	endless = most + 1 // stands for every maximum above most, and so for none at all
)

// width is how many characters a part takes: the real part is the minimum, the imaginary part the maximum. Floats hold numbers of this size exactly.
type width complex128

// unknown is the width of what may take any number of characters.
func unknown() width { return complex(0, endless) }

// bounded is a width of which no part is greater than need be.
func (w width) bounded() width {
	return width(complex(min(real(w), most), min(imag(w), endless)))
}

// or is the width of one of two parts.
func (w width) or(other width) width {
	return width(complex(min(real(w), real(other)), max(imag(w), imag(other))))
}

// times is the width of what is repeated, from n times on up to m times.
func (w width) times(n, m int) width {
	if m < 0 {
		// So many times at least one character have no end, but so many times none are none.
		m = endless
	}
	return width(complex(float64(n)*real(w), float64(m)*imag(w))).bounded()
}

// told is a width as two numbers.
func (w width) told() (int, int) {
	least, greatest := int(real(w)), int(imag(w))
	if greatest > most {
		greatest = -1
	}
	return least, greatest
}
