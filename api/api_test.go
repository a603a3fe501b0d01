package api

import "testing"

func TestNumbers(t *testing.T) {
	errors := []Errno{OK, ErrLong, ErrMarks, ErrRange, ErrOrder, ErrNone, ErrShort, ErrMagic, ErrVersion, ErrHead, ErrBounds, ErrLength, ErrSum, ErrBits}
	for number, e := range errors {
		if int(e) != number {
			t.Errorf("the error numbered %d is %d", number, e)
		}
	}
	if MaxValues != 200 || Version != 1 || HeadBytes != 14 {
		t.Errorf("bounds: %d, %d, %d", MaxValues, Version, HeadBytes)
	}
}
