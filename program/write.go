package program

// Bytes tells the bytes of an operation, by its number in package api, with the number, the attribute or the distance
// of a jump that stands behind it. If nothing stands behind such an operation, value means nothing.
func Bytes(code int, value int64) string {
	if code < 0 || code >= len(bytesBehind) {
		return ""
	}
	row := []byte{byte(code)}
	rest := uint64(value)
	for i := 0; i < bytesBehind[code]; i++ {
		row = append(row, byte(rest&255))
		rest = rest >> 8
	}
	return string(row)
}

// Whole puts the head of an image ahead of its operations: the height is the most that one of them has.
func Whole(height int, operations string) string {
	row := []byte{'S', 'L', byte(height & 255)}
	return string(row) + operations
}
