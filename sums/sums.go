// Package sums is layer 1: check sums, and bytes framed by them.
package sums

import (
	"bytes"

	"tidewater/api"
)

// What stands ahead of a frame's bytes.
const (
	lengthBytes = 2
	sumBytes    = 4
	headBytes   = lengthBytes + sumBytes
)

// nibbles is by how much each value of the register's low four bits turns the others, when they are shifted out. Four bits, and not eight, so that the table is short.
var nibbles = [16]uint32{
	0x00000000, 0x1db71064, 0x3b6e20c8, 0x26d930ac,
	0x76dc4190, 0x6b6b51f4, 0x4db26158, 0x5005713c,
	0xedb88320, 0xf00f9344, 0xd6d6a3e8, 0xcb61b38c,
	0x9b64c2b0, 0x86d3d2d4, 0xa00ae278, 0xbdbdf21c,
}

// Sum is the check sum of the parts, one behind the other.
func Sum(parts ...[]byte) uint32 {
	register := ^uint32(0)
	for _, part := range parts {
		for _, b := range part {
			register ^= uint32(b)
			for range 2 {
				register = register>>4 ^ nibbles[register&15]
			}
		}
	}
	return ^register
}

// Frame is the frame of bytes: how many they are, the sum, and they.
func Frame(b []byte) ([]byte, error) {
	if len(b) > api.MaxPage {
		return nil, api.ErrLong
	}
	frame := make([]byte, 0, Size(len(b)))
	frame = appendNumber(frame, uint32(len(b)), lengthBytes)
	frame = appendNumber(frame, Sum(frame, b), sumBytes)
	return append(frame, b...), nil
}

// Open is the bytes of the frame that b begins with, and what is behind it.
func Open(b []byte) ([]byte, []byte, error) {
	if len(b) < headBytes {
		return nil, nil, api.ErrShort
	}
	length := b[:lengthBytes]
	n := int(number(length))
	if n > api.MaxPage {
		return nil, nil, api.ErrLong
	}
	end := Size(n)
	if len(b) < end {
		return nil, nil, api.ErrShort
	}
	body := b[headBytes:end]
	if number(b[lengthBytes:headBytes]) != Sum(length, body) {
		return nil, nil, api.ErrSum
	}
	// Copies, since what is answered is the caller's own.
	return bytes.Clone(body), bytes.Clone(b[end:]), nil
}

// Size is how many bytes the frame of n bytes has: 0, if there is no such frame.
func Size(n int) int {
	if n < 0 || n > api.MaxPage {
		return 0
	}
	return headBytes + n
}

// appendNumber puts n's low bytes behind b, the low one first.
func appendNumber(b []byte, n uint32, count int) []byte {
	for i := range count {
		b = append(b, byte(n>>(8*i)))
	}
	return b
}

// number is what appendNumber has put.
func number(b []byte) uint32 {
	var n uint32
	for i, x := range b {
		n |= uint32(x) << (8 * i)
	}
	return n
}
