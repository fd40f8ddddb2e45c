package wire

// Sum tells the check sum of a text, the widely used CRC-32 (P4).
func Sum(s string) int {
	const poly = 0xEDB88320
	sum := ^uint32(0)
	for i := range len(s) {
		sum ^= uint32(s[i])
		for range 8 {
			low := sum & 1
			sum >>= 1
			if low == 1 {
				sum ^= poly
			}
		}
	}
	return int(^sum)
}
