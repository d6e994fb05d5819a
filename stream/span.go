package stream

// span is what a symbol stands for: numbers from base on, told apart by so many more bits.
type span struct{ base, more int }

// lengthSpan is of the symbols 257 to 285. The tables of RFC 1951 are a rule but for their ends: four symbols to each number of bits.
func lengthSpan(symbol int) span {
	i := symbol - firstLength
	switch {
	case symbol == lastLength:
		return span{maxLength, 0}
	case i < 4:
		return span{minLength + i, 0}
	}
	more := i/4 - 1
	return span{minLength + (4+i%4)<<more, more}
}

// distanceSpan is of the distances 0 to 29: two symbols to each number of bits.
func distanceSpan(symbol int) span {
	if symbol < 2 {
		return span{1 + symbol, 0}
	}
	more := symbol/2 - 1
	return span{1 + (2+symbol%2)<<more, more}
}

// lengthSymbol is the one whose span begins nearest below: 258 so is 285, which needs no more bits.
func lengthSymbol(length int) int {
	symbol := lastLength
	for lengthSpan(symbol).base > length {
		symbol--
	}
	return symbol
}

func distanceSymbol(back int) int {
	symbol := lastDistance
	for distanceSpan(symbol).base > back {
		symbol--
	}
	return symbol
}
