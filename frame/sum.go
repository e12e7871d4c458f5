package frame

// halves tells, for each value of the register's lowest four bits, what four places of its way through the checksum's rule leave of them. Four bits at a time need sixteen numbers; a whole byte at a time would need 256.
var halves = [16]uint32{
	0x00000000, 0x1DB71064, 0x3B6E20C8, 0x26D930AC,
	0x76DC4190, 0x6B6B51F4, 0x4DB26158, 0x5005713C,
	0xEDB88320, 0xF00F9344, 0xD6D6A3E8, 0xCB61B38C,
	0x9B64C2B0, 0x86D3D2D4, 0xA00AE278, 0xBDBDF21C,
}

// Sum tells the checksum of b.
func Sum(b []byte) uint32 { return Add(0, b) }

// Add tells the checksum of what has the checksum sum with b behind it.
func Add(sum uint32, b []byte) uint32 {
	register := ^sum
	for _, c := range b {
		register ^= uint32(c)
		register = register>>4 ^ halves[register&15]
		register = register>>4 ^ halves[register&15]
	}
	return ^register
}
