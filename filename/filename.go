// Package filename tells which names a file may have: the disk asks it, and so do the layers that must refuse a name ahead of any change of the disk.
package filename

import "lamplighter/api"

// Right asks whether a file may have that name.
func Right(name string) bool {
	if len(name) < 1 || len(name) > api.MaxName {
		return false
	}
	for i := range len(name) {
		if !rightByte(name[i]) {
			return false
		}
	}
	return true
}

func rightByte(c byte) bool {
	return 'a' <= c && c <= 'z' || '0' <= c && c <= '9' || c == '.'
}
