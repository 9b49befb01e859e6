package command_test

import (
	"math"
	"strings"
	"testing"

	"moot/api"
)

// second is the form of a kind with two keys, Key2's items as they are told.
func second(kind int, key string, shared, length uint64, rest string) []byte {
	return join([]byte{byte(kind), 0, 0, byte(len(key))}, []byte(key), number(shared), number(length), []byte(rest))
}

func twoKeys(kind int, key, key2 string) api.Cmd { return api.Cmd{Kind: kind, Key: key, Key2: key2} }

func TestP4_3Key2Examples(t *testing.T) {
	refuses(t, 2, []byte{8, 0, 0, 2, 'a', 'b', 0, 3, 'a', 'c', 'd'}, api.ErrForm)
	refuses(t, 2, []byte{7, 0, 0, 1, 'k', 1, 0}, api.ErrKey2)
}

// Each step is met with all that comes behind it amiss too.
func TestP4_3Key2StepsInTheirOrder(t *testing.T) {
	for kind := 6; kind <= 8; kind++ {
		head := []byte{byte(kind), 0, 0, 2, 'a', 'b'}
		for _, c := range []struct {
			b     []byte
			fault api.Errno
		}{
			{[]byte{0x83, 0}, api.ErrForm},                  // the first item's form, though it is above Key's length
			{run(0xff, 9, 2), api.ErrWide},                  // its width
			{[]byte{0x83}, api.ErrShort},                    // its end
			{[]byte{3, 0x80, 0}, api.ErrKey2},               // above Key's length, ahead of the second item's form
			{[]byte{3}, api.ErrKey2},                        // ahead of its being there at all
			{[]byte{3, 62}, api.ErrKey2},                    // ahead of the missing bytes
			{[]byte{2}, api.ErrShort},                       // the second item
			{[]byte{2, 0xff, 0}, api.ErrForm},               // its form, though the sum is too great
			{join([]byte{1}, run(0xff, 9, 2)), api.ErrWide}, // its width
			{[]byte{2, 63}, api.ErrKey2},                    // the sum, ahead of the missing bytes
			{[]byte{0, 0}, api.ErrKey2},                     // a sum of nothing
			{[]byte{0, 65, 'a'}, api.ErrKey2},               // the sum, ahead of the missing bytes and of the form
			{[]byte{0, 2, 'a'}, api.ErrShort},               // the missing bytes, ahead of the form
			{[]byte{0, 2, 'a', 'b'}, api.ErrForm},           // the form, ahead of the same key
			{[]byte{1, 1, 'b'}, api.ErrForm},                // the same
			{[]byte{0, 1, 'a'}, api.ErrForm},                // the form, ahead of a key that is not above
			{[]byte{2, 0}, api.ErrKey2},                     // the same key
		} {
			refuses(t, 2, join(head, c.b), c.fault)
		}
	}
	for _, b := range [][]byte{{1, 0}, {0, 1, 'A'}, {1, 1, 'a'}, {1, 1, 'A'}} {
		refuses(t, 2, join([]byte{8, 0, 0, 2, 'a', 'b'}, b), api.ErrKey2)
	}
	checkDecode(t, 2, []byte{6, 0, 0, 2, 'a', 'b', 1, 0}, twoKeys(6, "ab", "a"), 8, api.OK)
	checkDecode(t, 2, []byte{7, 0, 0, 2, 'a', 'b', 0, 1, 'A'}, twoKeys(7, "ab", "A"), 9, api.OK)
}

// All sums of both items, with all bytes there and with none of them.
func TestP4_3Key2Sums(t *testing.T) {
	for _, size := range []int{1, 2, 63, 64} {
		key := strings.Repeat("k", size)
		for shared := uint64(0); shared <= uint64(size)+2; shared++ {
			for length := uint64(0); length <= 70; length++ {
				rest := strings.Repeat("z", int(length))
				b := second(8, key, shared, length, rest)
				sum := shared + length
				switch {
				case shared > uint64(size), sum < 1, sum > 64:
					refuses(t, 2, b, api.ErrKey2)
					refuses(t, 2, second(8, key, shared, length, ""), api.ErrKey2)
				case length == 0:
					refuses(t, 2, b, api.ErrKey2)
				default:
					checkDecode(t, 2, b, twoKeys(8, key, key[:shared]+rest), len(b), api.OK)
					refuses(t, 2, b[:len(b)-1], api.ErrShort)
					refuses(t, 2, second(8, key, shared, length, ""), api.ErrShort)
				}
			}
		}
	}
}

// Sums that leave 64 bits, or that a narrower number would take for small ones.
func TestP4_3Key2SumsAreExact(t *testing.T) {
	for _, size := range []int{1, 2, 64} {
		key := strings.Repeat("k", size)
		for shared := uint64(0); shared <= uint64(size); shared++ {
			for k := range uint64(70) {
				for _, length := range []uint64{math.MaxUint64 - k, 1<<63 + k, 1<<63 - 1 - k, 1<<32 + k, 1<<32 - k, 1<<16 + k, 256 + k, 65 + k} {
					refuses(t, 2, second(7, key, shared, length, strings.Repeat("z", 100)), api.ErrKey2)
					refuses(t, 2, second(7, key, shared, length, ""), api.ErrKey2)
				}
			}
		}
		for k := range uint64(70) {
			for _, shared := range []uint64{math.MaxUint64 - k, 1<<63 + k, 1<<63 - 1 - k, 1<<32 + k, 1<<16 + k, 256 + k, uint64(size) + 1 + k} {
				refuses(t, 2, second(7, key, shared, 1, "z"), api.ErrKey2)
				refuses(t, 2, second(7, key, shared, math.MaxUint64-shared+2, "z"), api.ErrKey2)
			}
		}
	}
}

// Only the longest shared beginning is a form.
func TestP4_3Key2OneForm(t *testing.T) {
	keys := []string{"a", "b", "aa", "ab", "ba", "aaa", "aab", "aba", "abab", "ababab", "\x00", "a\x00", text(64), text(63) + "!", text(63)}
	for kind := 6; kind <= 8; kind++ {
		for _, key := range keys {
			for _, key2 := range keys {
				most := 0
				for most < min(len(key), len(key2)) && key[:most+1] == key2[:most+1] {
					most++
				}
				for shared := 0; shared <= most; shared++ {
					b := second(kind, key, uint64(shared), uint64(len(key2)-shared), key2[shared:])
					switch {
					case shared < most:
						refuses(t, 2, b, api.ErrForm)
					case key == key2, kind == 8 && key2 < key:
						refuses(t, 2, b, api.ErrKey2)
					default:
						checkDecode(t, 2, b, twoKeys(kind, key, key2), len(b), api.OK)
					}
				}
			}
		}
	}
}
