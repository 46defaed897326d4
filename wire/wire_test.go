package wire

import (
	"bower/api"
	"bytes"
	"encoding/binary"
	"encoding/hex"
	"math"
	"math/rand"
	"strings"
	"testing"
)

// shapes are the chapter's words: of each Op what stands behind Op and Tenant, in order. W is an N of two bytes, N one of one, T is Bit.
var shapes = [22]string{
	1: "W", 2: "", 3: "A", 4: "T", 5: "N", 6: "A", 7: "AB", 8: "AB", 9: "AB", 10: "ABC", 11: "ANT",
	12: "ANB", 13: "AN", 14: "AN", 15: "AN", 16: "A", 17: "A", 18: "A", 19: "AB", 20: "A", 21: "",
}

// mostNs are the chapter's words: the greatest N of each Op that names it.
var mostNs = [22]int{1: 65535, 5: 7, 11: 7, 12: 7, 13: 7, 14: 7, 15: 255}

// widths are the chapter's words: how many bytes each part has.
var widths = [256]int{'A': 8, 'B': 8, 'C': 8, 'W': 2, 'N': 1, 'T': 1}

// shape is "" of what is no Op, too.
func shape(op int) string {
	if op < 0 || op >= len(shapes) {
		return ""
	}
	return shapes[op]
}

// mostN is 0 of what is no Op, too.
func mostN(op int) int {
	if op < 0 || op >= len(mostNs) {
		return 0
	}
	return mostNs[op]
}

// names tells whether an Op names a part.
func names(op int, part string) bool {
	return strings.ContainsAny(shape(op), part)
}

// right tells whether a request may be, by the chapter's words.
func right(r api.Req) bool {
	if r.Op < 1 || r.Op > 21 || r.Tenant < 1 || r.Tenant > 8 {
		return false
	}
	if r.A != 0 && !names(r.Op, "A") || r.B != 0 && !names(r.Op, "B") || r.C != 0 && !names(r.Op, "C") {
		return false
	}
	if r.N != 0 && !names(r.Op, "NW") || r.Bit != 0 && !names(r.Op, "T") {
		return false
	}
	return r.N >= 0 && r.N <= mostN(r.Op) && (r.Bit == 0 || r.Bit == 1)
}

// laid tells the bytes of a request that may be, by the chapter's words.
func laid(r api.Req) []byte {
	b := []byte{byte(r.Op), byte(r.Tenant)}
	for _, part := range shape(r.Op) {
		switch part {
		case 'A':
			b = binary.BigEndian.AppendUint64(b, r.A)
		case 'B':
			b = binary.BigEndian.AppendUint64(b, r.B)
		case 'C':
			b = binary.BigEndian.AppendUint64(b, r.C)
		case 'W':
			b = binary.BigEndian.AppendUint16(b, uint16(r.N))
		case 'N':
			b = append(b, byte(r.N))
		case 'T':
			b = append(b, byte(r.Bit))
		}
	}
	return b
}

// read tells the request whose bytes b is, by the chapter's words; false if it is none's.
func read(b []byte) (api.Req, bool) {
	if len(b) < 2 {
		return api.Req{}, false
	}
	r := api.Req{Op: int(b[0]), Tenant: int(b[1])}
	want := 2
	for _, part := range shape(r.Op) {
		want += widths[part]
	}
	if len(b) != want {
		return api.Req{}, false
	}
	at := 2
	for _, part := range shape(r.Op) {
		switch part {
		case 'A':
			r.A = binary.BigEndian.Uint64(b[at:])
		case 'B':
			r.B = binary.BigEndian.Uint64(b[at:])
		case 'C':
			r.C = binary.BigEndian.Uint64(b[at:])
		case 'W':
			r.N = int(binary.BigEndian.Uint16(b[at:]))
		case 'N':
			r.N = int(b[at])
		case 'T':
			r.Bit = int(b[at])
		}
		at += widths[part]
	}
	if !right(r) {
		return api.Req{}, false
	}
	return r, true
}

// rightResp tells whether an answer may be, by the chapter's words.
func rightResp(r api.Resp) bool {
	return r.Code >= 0 && r.Code <= 7 && r.Tenant >= 0 && r.Tenant <= 8 && r.Charge >= 0 && r.Charge <= 65535 && r.Cost >= 0
}

// laidResp tells the bytes of an answer that may be, by the chapter's words.
func laidResp(r api.Resp) []byte {
	b := binary.BigEndian.AppendUint64([]byte{byte(r.Code), byte(r.Tenant)}, r.Val)
	return binary.BigEndian.AppendUint64(binary.BigEndian.AppendUint16(b, uint16(r.Charge)), uint64(r.Cost))
}

// readResp tells the answer whose bytes b is, by the chapter's words; false if it is none's.
func readResp(b []byte) (api.Resp, bool) {
	if len(b) != 20 || b[0] > 7 || b[1] > 8 || b[12] > 127 {
		return api.Resp{}, false
	}
	return api.Resp{
		Code:   int(b[0]),
		Tenant: int(b[1]),
		Val:    binary.BigEndian.Uint64(b[2:10]),
		Charge: int(b[10])*256 + int(b[11]),
		Cost:   int(binary.BigEndian.Uint64(b[12:20])),
	}, true
}

// ints are numbers of all sizes: all near 0 and near the ends of bytes, two bytes and more, what comes to a small one if it is cut, and the farthest.
func ints() []int {
	var l []int
	for n := -40; n <= 40; n++ {
		l = append(l, n, 256+n, 65536+n, -65536+n, 1<<32+n)
	}
	l = append(l, math.MinInt, math.MinInt+1, math.MinInt+8, math.MinInt+21, math.MaxInt, math.MaxInt-1)
	for bit := 5; bit < 63; bit++ {
		l = append(l, 1<<bit, -1<<bit, 1<<bit-1, 1-1<<bit, 1<<bit+1, 1<<bit+5, math.MinInt+1<<bit)
	}
	return l
}

// edges are those of ints that the chapter speaks of, their neighbours, and the farthest.
func edges() []int {
	return []int{math.MinInt, math.MinInt + 1, -65536, -256, -2, -1, 0, 1, 2, 3, 6, 7, 8, 9, 127, 128, 254, 255, 256, 257, 263, 264, 65534, 65535, 65536, 65537, 65543, 1 << 31, 1<<32 + 1, math.MaxInt - 1, math.MaxInt}
}

// words are numbers of eight bytes: the least and the greatest, each bit and each byte alone, and such as are read otherwise from behind.
func words() []uint64 {
	l := []uint64{0, 1, 2, 255, 256, 1 << 63, 1<<63 - 1, 1<<63 + 1, 1<<64 - 1, 1<<64 - 2, 0x0102030405060708, 0x0807060504030201, 0xfedcba9876543210, 0x0100000000000000, 0x080f00000000000f}
	for bit := range 64 {
		l = append(l, 1<<bit, ^uint64(1<<bit), 1<<bit-1)
	}
	for at := range 8 {
		l = append(l, 0xff<<(8*at), 0x5a<<(8*at))
	}
	return l
}

// drawn tells a request of this Op that may be, drawn at random.
func drawn(rnd *rand.Rand, op int) api.Req {
	l := words()
	word := func() uint64 {
		if rnd.Intn(2) == 0 {
			return l[rnd.Intn(len(l))]
		}
		return rnd.Uint64()
	}
	r := api.Req{Op: op, Tenant: 1 + rnd.Intn(8)}
	if names(op, "A") {
		r.A = word()
	}
	if names(op, "B") {
		r.B = word()
	}
	if names(op, "C") {
		r.C = word()
	}
	if names(op, "NW") {
		r.N = rnd.Intn(mostN(op) + 1)
	}
	if names(op, "T") {
		r.Bit = rnd.Intn(2)
	}
	return r
}

// full tells a request with all its Op's parts other than 0 and than each other.
func full(op, tenant int) api.Req {
	r := api.Req{Op: op, Tenant: tenant}
	if names(op, "A") {
		r.A = 0x1112131415161718
	}
	if names(op, "B") {
		r.B = 0xa1a2a3a4a5a6a7a8
	}
	if names(op, "C") {
		r.C = 0xf1e2d3c4b5a69788
	}
	if names(op, "NW") {
		r.N = mostN(op)
	}
	if names(op, "T") {
		r.Bit = 1
	}
	return r
}

// some tells requests of an Op that may be: nothing but the tenant, all that there may be, and what is drawn.
func some(rnd *rand.Rand, op int) []api.Req {
	return []api.Req{{Op: op, Tenant: 1}, {Op: op, Tenant: 8}, full(op, 1), full(op, 8), full(op, 3), drawn(rnd, op), drawn(rnd, op)}
}

// drawnResp tells an answer that may be, drawn at random.
func drawnResp(rnd *rand.Rand) api.Resp {
	r := api.Resp{Code: rnd.Intn(8), Tenant: rnd.Intn(9)}
	if rnd.Intn(3) > 0 {
		r.Val = rnd.Uint64() >> rnd.Intn(64)
	}
	if rnd.Intn(3) > 0 {
		r.Charge = rnd.Intn(65536)
	}
	if rnd.Intn(3) > 0 {
		r.Cost = rnd.Int() >> rnd.Intn(63)
	}
	return r
}

// holdPut holds Put against the chapter's words, and what it tells against Get.
func holdPut(t *testing.T, r api.Req) {
	t.Helper()
	if !right(r) {
		refusePut(t, r)
		return
	}
	b, err := Put(r)
	if err != nil || !bytes.Equal(b, laid(r)) {
		t.Fatalf("Put(%+v) tells %x, %v, not %x", r, b, err, laid(r))
	}
	if back, err := Get(b); err != nil || back != r {
		t.Fatalf("Put(%+v) tells %x, which is got as %+v, %v", r, b, back, err)
	}
}

// refusePut holds that r may not be.
func refusePut(t *testing.T, r api.Req) {
	t.Helper()
	if b, err := Put(r); err != api.ErrArg || b != nil {
		t.Fatalf("Put(%+v) tells %x, %v", r, b, err)
	}
}

// holdGet holds Get against the chapter's words, what it tells against Put, and that b stays, and what lies behind it.
func holdGet(t *testing.T, b []byte) {
	t.Helper()
	want, is := read(b)
	if !is {
		refuseGet(t, b)
		return
	}
	kept := bytes.Clone(b)
	r, err := Get(b)
	if err != nil || r != want {
		t.Fatalf("Get(%x) tells %+v, %v, not %+v", b, r, err, want)
	}
	if !bytes.Equal(b, kept) {
		t.Fatalf("Get(%x) left %x", kept, b)
	}
	if back, err := Put(r); err != nil || !bytes.Equal(back, b) {
		t.Fatalf("Get(%x) tells %+v, which is put as %x, %v", b, r, back, err)
	}
}

// refuseGet holds that b is no request's.
func refuseGet(t *testing.T, b []byte) {
	t.Helper()
	kept := bytes.Clone(b)
	if r, err := Get(b); err != api.ErrForm || r != (api.Req{}) {
		t.Fatalf("Get(%x) tells %+v, %v", b, r, err)
	}
	if !bytes.Equal(b, kept) {
		t.Fatalf("Get(%x) left %x", kept, b)
	}
}

// holdPutResp is to PutResp what holdPut is to Put.
func holdPutResp(t *testing.T, r api.Resp) {
	t.Helper()
	if !rightResp(r) {
		refusePutResp(t, r)
		return
	}
	b, err := PutResp(r)
	if err != nil || !bytes.Equal(b, laidResp(r)) {
		t.Fatalf("PutResp(%+v) tells %x, %v, not %x", r, b, err, laidResp(r))
	}
	if back, err := GetResp(b); err != nil || back != r {
		t.Fatalf("PutResp(%+v) tells %x, which is got as %+v, %v", r, b, back, err)
	}
}

// refusePutResp holds that r may not be.
func refusePutResp(t *testing.T, r api.Resp) {
	t.Helper()
	if b, err := PutResp(r); err != api.ErrArg || b != nil {
		t.Fatalf("PutResp(%+v) tells %x, %v", r, b, err)
	}
}

// holdGetResp is to GetResp what holdGet is to Get.
func holdGetResp(t *testing.T, b []byte) {
	t.Helper()
	want, is := readResp(b)
	if !is {
		refuseGetResp(t, b)
		return
	}
	kept := bytes.Clone(b)
	r, err := GetResp(b)
	if err != nil || r != want {
		t.Fatalf("GetResp(%x) tells %+v, %v, not %+v", b, r, err, want)
	}
	if !bytes.Equal(b, kept) {
		t.Fatalf("GetResp(%x) left %x", kept, b)
	}
	if back, err := PutResp(r); err != nil || !bytes.Equal(back, b) {
		t.Fatalf("GetResp(%x) tells %+v, which is put as %x, %v", b, r, back, err)
	}
}

// refuseGetResp holds that b is no answer's.
func refuseGetResp(t *testing.T, b []byte) {
	t.Helper()
	kept := bytes.Clone(b)
	if r, err := GetResp(b); err != api.ErrForm || r != (api.Resp{}) {
		t.Fatalf("GetResp(%x) tells %+v, %v", b, r, err)
	}
	if !bytes.Equal(b, kept) {
		t.Fatalf("GetResp(%x) left %x", kept, b)
	}
}

// written tells the bytes that are written as hexadecimal digits.
func written(t *testing.T, s string) []byte {
	t.Helper()
	b, err := hex.DecodeString(s)
	if err != nil {
		t.Fatal(err)
	}
	return b
}

// P18.1: the chapter's example.
func TestExample(t *testing.T) {
	if b, err := Put(api.Req{Op: 5, Tenant: 1, N: 3}); err != nil || !bytes.Equal(b, []byte{5, 1, 3}) {
		t.Errorf("Put tells %x, %v", b, err)
	}
	if r, err := Get([]byte{5, 1, 3}); err != nil || r != (api.Req{Op: 5, Tenant: 1, N: 3}) {
		t.Errorf("Get tells %+v, %v", r, err)
	}
}

// P18.1, P18.3: each Op by hand, with its bytes in the chapter's order, the highest first.
func TestRequestsByHand(t *testing.T) {
	const a, b, c = 0x0102030405060708, 0x1112131415161718, 0x8182838485868788
	const as, bs, cs = "0102030405060708", "1112131415161718", "8182838485868788"
	for _, x := range []struct {
		r api.Req
		s string
	}{
		{api.Req{Op: api.Create, Tenant: 1, N: 0x1234}, "01011234"},
		{api.Req{Op: api.Create, Tenant: 8}, "01080000"},
		{api.Req{Op: api.Create, Tenant: 2, N: 255}, "010200ff"},
		{api.Req{Op: api.Create, Tenant: 2, N: 256}, "01020100"},
		{api.Req{Op: api.Create, Tenant: 2, N: 65535}, "0102ffff"},
		{api.Req{Op: api.Teardown, Tenant: 3}, "0203"},
		{api.Req{Op: api.Revoke, Tenant: 4, A: a}, "0304" + as},
		{api.Req{Op: api.Const, Tenant: 5}, "040500"},
		{api.Req{Op: api.Const, Tenant: 5, Bit: 1}, "040501"},
		{api.Req{Op: api.Var, Tenant: 6}, "050600"},
		{api.Req{Op: api.Var, Tenant: 6, N: 7}, "050607"},
		{api.Req{Op: api.Not, Tenant: 7, A: c}, "0607" + cs},
		{api.Req{Op: api.And, Tenant: 8, A: a, B: b}, "0708" + as + bs},
		{api.Req{Op: api.Or, Tenant: 1, A: b, B: a}, "0801" + bs + as},
		{api.Req{Op: api.Xor, Tenant: 2, A: a, B: a}, "0902" + as + as},
		{api.Req{Op: api.Ite, Tenant: 3, A: a, B: b, C: c}, "0a03" + as + bs + cs},
		{api.Req{Op: api.Restrict, Tenant: 4, A: a, N: 6, Bit: 1}, "0b04" + as + "0601"},
		{api.Req{Op: api.Restrict, Tenant: 4, A: a, N: 1}, "0b04" + as + "0100"},
		{api.Req{Op: api.Compose, Tenant: 5, A: a, N: 6, B: b}, "0c05" + as + "06" + bs},
		{api.Req{Op: api.Exists, Tenant: 6, A: a, N: 5}, "0d06" + as + "05"},
		{api.Req{Op: api.Forall, Tenant: 7, A: a, N: 4}, "0e07" + as + "04"},
		{api.Req{Op: api.Eval, Tenant: 8, A: a, N: 255}, "0f08" + as + "ff"},
		{api.Req{Op: api.Eval, Tenant: 8, A: 0, N: 8}, "0f08000000000000000008"},
		{api.Req{Op: api.Count, Tenant: 1, A: a}, "1001" + as},
		{api.Req{Op: api.Support, Tenant: 2, A: a}, "1102" + as},
		{api.Req{Op: api.Size, Tenant: 3, A: a}, "1203" + as},
		{api.Req{Op: api.Same, Tenant: 4, A: a, B: c}, "1304" + as + cs},
		{api.Req{Op: api.Release, Tenant: 5, A: a}, "1405" + as},
		{api.Req{Op: api.Status, Tenant: 6}, "1506"},
		{api.Req{Op: api.Same, Tenant: 1, A: 1, B: 1 << 63}, "1301" + "0000000000000001" + "8000000000000000"},
		{api.Req{Op: api.Same, Tenant: 1, A: 1<<64 - 1}, "1301" + "ffffffffffffffff" + "0000000000000000"},
	} {
		want := written(t, x.s)
		if b, err := Put(x.r); err != nil || !bytes.Equal(b, want) {
			t.Errorf("Put(%+v) tells %x, %v", x.r, b, err)
		}
		if r, err := Get(want); err != nil || r != x.r {
			t.Errorf("Get(%s) tells %+v, %v", x.s, r, err)
		}
	}
}

// P18.1, P18.3: answers of every Code by hand, with and without a Val, a Charge and a Cost.
func TestAnswersByHand(t *testing.T) {
	for _, x := range []struct {
		r api.Resp
		s string
	}{
		{api.Resp{}, "0000" + "0000000000000000" + "0000" + "0000000000000000"},
		{api.Resp{Code: api.OK, Tenant: 1, Val: 0x0102030405060708, Charge: 0x090a, Cost: 0x0b0c0d0e0f101112}, "0001" + "0102030405060708" + "090a" + "0b0c0d0e0f101112"},
		{api.Resp{Code: api.OK, Tenant: 8, Val: 1 << 63}, "0008" + "8000000000000000" + "0000" + "0000000000000000"},
		{api.Resp{Code: api.OK, Tenant: 8, Val: 1<<64 - 1}, "0008" + "ffffffffffffffff" + "0000" + "0000000000000000"},
		{api.Resp{Code: api.BadRequest}, "0100" + "0000000000000000" + "0000" + "0000000000000000"},
		{api.Resp{Code: api.NoTenant, Tenant: 5}, "0205" + "0000000000000000" + "0000" + "0000000000000000"},
		{api.Resp{Code: api.TenantIs, Tenant: 3, Charge: 65535}, "0303" + "0000000000000000" + "ffff" + "0000000000000000"},
		{api.Resp{Code: api.NoCapacity, Tenant: 7, Val: 1}, "0407" + "0000000000000001" + "0000" + "0000000000000000"},
		{api.Resp{Code: api.BadHandle, Tenant: 2, Charge: 256, Cost: 1}, "0502" + "0000000000000000" + "0100" + "0000000000000001"},
		{api.Resp{Code: api.Quota, Tenant: 4, Cost: math.MaxInt}, "0604" + "0000000000000000" + "0000" + "7fffffffffffffff"},
		{api.Resp{Code: api.NoSlot, Tenant: 6, Val: 2, Charge: 1, Cost: 3}, "0706" + "0000000000000002" + "0001" + "0000000000000003"},
	} {
		want := written(t, x.s)
		if b, err := PutResp(x.r); err != nil || !bytes.Equal(b, want) {
			t.Errorf("PutResp(%+v) tells %x, %v", x.r, b, err)
		}
		if r, err := GetResp(want); err != nil || r != x.r {
			t.Errorf("GetResp(%s) tells %+v, %v", x.s, r, err)
		}
	}
}

// P18.1, R3, P1: any number as the Op of what is right for another, and of what has nothing else.
func TestPutOps(t *testing.T) {
	rnd := rand.New(rand.NewSource(181))
	for was := 1; was <= 21; was++ {
		for _, r := range some(rnd, was) {
			for _, op := range ints() {
				r.Op = op
				holdPut(t, r)
				if op < 1 || op > 21 {
					refusePut(t, r)
				}
			}
		}
	}
	refusePut(t, api.Req{})
	refusePut(t, api.Req{Op: 0, Tenant: 1})
	refusePut(t, api.Req{Op: 22, Tenant: 1})
	refusePut(t, api.Req{Op: 258, Tenant: 1})
	refusePut(t, api.Req{Op: math.MinInt + 2, Tenant: 1})
}

// P18.1, R3, P1: any number as the Tenant of every Op.
func TestPutTenants(t *testing.T) {
	rnd := rand.New(rand.NewSource(182))
	for op := 1; op <= 21; op++ {
		for _, r := range some(rnd, op) {
			for _, tenant := range ints() {
				r.Tenant = tenant
				holdPut(t, r)
				if tenant < 1 || tenant > 8 {
					refusePut(t, r)
				}
			}
			for tenant := 1; tenant <= 8; tenant++ {
				r.Tenant = tenant
				if b, err := Put(r); err != nil || int(b[1]) != tenant {
					t.Fatalf("Put(%+v) tells %x, %v", r, b, err)
				}
			}
		}
	}
}

// P18.1, R3, P1: any number as the N of every Op, be it named or not.
func TestPutNs(t *testing.T) {
	rnd := rand.New(rand.NewSource(183))
	for op := 1; op <= 21; op++ {
		many := 0
		for n := -70000; n <= 70000; n++ {
			if _, err := Put(api.Req{Op: op, Tenant: 1, N: n}); err == nil {
				many++
			}
		}
		if many != mostN(op)+1 {
			t.Errorf("of Op %d %d numbers may be N", op, many)
		}
		for _, r := range some(rnd, op) {
			for _, r.N = range ints() {
				holdPut(t, r)
				if r.N < 0 || r.N > mostN(op) {
					refusePut(t, r)
				}
			}
		}
	}
}

// P18.1, R3, P1: any number as the Bit of every Op, be it named or not.
func TestPutBits(t *testing.T) {
	rnd := rand.New(rand.NewSource(184))
	for op := 1; op <= 21; op++ {
		for _, r := range some(rnd, op) {
			for _, r.Bit = range ints() {
				holdPut(t, r)
				if r.Bit != 0 && (r.Bit != 1 || op != 4 && op != 11) {
					refusePut(t, r)
				}
			}
		}
	}
}

// P18.1, P18.3, P1: any numbers as A, B and C of every Op, be they named or not.
func TestPutHandles(t *testing.T) {
	rnd := rand.New(rand.NewSource(185))
	for op := 1; op <= 21; op++ {
		for _, r := range some(rnd, op) {
			a, b, c := r, r, r
			for _, w := range words() {
				a.A, b.B, c.C = w, w, w
				holdPut(t, a)
				holdPut(t, b)
				holdPut(t, c)
			}
		}
		for _, r := range []api.Req{full(op, 1), {Op: op, Tenant: 1}} {
			for _, r.A = range []uint64{0, 1, 1 << 63, 1<<64 - 1} {
				for _, r.B = range []uint64{0, 1, 1 << 63, 1<<64 - 1} {
					for _, r.C = range []uint64{0, 1, 1 << 63, 1<<64 - 1} {
						holdPut(t, r)
					}
				}
			}
		}
	}
}

// P18.1, R3: each part that an Op doesn't name, alone, beside what is right.
func TestPutNotNamed(t *testing.T) {
	rnd := rand.New(rand.NewSource(186))
	refused := 0
	for op := 1; op <= 21; op++ {
		for _, r := range some(rnd, op) {
			for part, l := range map[string][]api.Req{
				"A":  {{A: 1}, {A: 1 << 63}, {A: 1<<64 - 1}, {A: 1 << 8}, {A: 1 << 32}},
				"B":  {{B: 1}, {B: 1 << 63}, {B: 1<<64 - 1}, {B: 1 << 8}, {B: 1 << 32}},
				"C":  {{C: 1}, {C: 1 << 63}, {C: 1<<64 - 1}, {C: 1 << 8}, {C: 1 << 32}},
				"NW": {{N: 1}, {N: 7}, {N: 255}, {N: 256}, {N: 65535}, {N: 65536}, {N: -1}, {N: math.MinInt}, {N: math.MaxInt}},
				"T":  {{Bit: 1}, {Bit: 2}, {Bit: 256}, {Bit: -1}, {Bit: 1 << 32}, {Bit: math.MinInt}, {Bit: math.MaxInt}},
			} {
				for _, x := range l {
					if !names(op, part) {
						x.Op, x.Tenant, x.A, x.B, x.C, x.N, x.Bit = op, r.Tenant, x.A|r.A, x.B|r.B, x.C|r.C, x.N|r.N, x.Bit|r.Bit
						refusePut(t, x)
						refused++
					}
				}
			}
		}
	}
	// Of 21 Ops 16 name A, 6 B, 1 C, 7 N and 2 Bit; of each there are seven requests.
	if want := 7 * (5*5 + 15*5 + 20*5 + 14*9 + 19*7); refused != want {
		t.Errorf("%d were refused, not %d", refused, want)
	}
}

// P18.1, P18.3: all ways of small parts, and of parts amiss together.
func TestPutAllSmall(t *testing.T) {
	many := 0
	for op := -1; op <= 23; op++ {
		for tenant := -1; tenant <= 10; tenant++ {
			for handles := range uint64(8) {
				for n := -1; n <= 9; n++ {
					for bit := -1; bit <= 2; bit++ {
						r := api.Req{Op: op, Tenant: tenant, A: handles & 1, B: handles >> 1 & 1, C: handles >> 2 & 1, N: n, Bit: bit}
						holdPut(t, r)
						if right(r) {
							many++
						}
					}
				}
			}
		}
	}
	// Of each tenant: Create, Teardown and Status, the six of A alone, Const, Var, the four of A and B, Ite, Restrict, Compose, Exists and Forall, Eval.
	if want := 8 * (10 + 2*1 + 6*2 + 2 + 8 + 4*4 + 8 + 2*8*2 + 4*8 + 2*2*8 + 2*10); many != want {
		t.Errorf("%d may be, not %d", many, want)
	}
}

// P18.1, R3: two and more parts at their edges at once.
func TestPutManyEdges(t *testing.T) {
	rnd := rand.New(rand.NewSource(187))
	l, w := edges(), words()
	pick := func() int { return l[rnd.Intn(len(l))] }
	for range 300000 {
		r := drawn(rnd, 1+rnd.Intn(21))
		for range 1 + rnd.Intn(4) {
			switch rnd.Intn(7) {
			case 0:
				r.Op = pick()
			case 1:
				r.Tenant = pick()
			case 2:
				r.A = w[rnd.Intn(len(w))]
			case 3:
				r.B = w[rnd.Intn(len(w))]
			case 4:
				r.C = w[rnd.Intn(len(w))]
			case 5:
				r.N = pick()
			case 6:
				r.Bit = pick()
			}
		}
		holdPut(t, r)
	}
}

// P18.1, R3, P1: no bytes, and one alone.
func TestGetShort(t *testing.T) {
	refuseGet(t, nil)
	refuseGet(t, []byte{})
	for op := range 256 {
		refuseGet(t, []byte{byte(op)})
	}
}

// P18.1, P18.3: all bytes up to two, and many of three.
func TestGetAllShort(t *testing.T) {
	two, three := 0, 0
	for op := range 256 {
		for tenant := range 256 {
			b := []byte{byte(op), byte(tenant)}
			holdGet(t, b)
			if _, err := Get(b); err == nil {
				two++
			}
			if tenant > 10 && tenant < 254 {
				continue
			}
			for last := range 256 {
				b := []byte{byte(op), byte(tenant), byte(last)}
				holdGet(t, b)
				if _, err := Get(b); err == nil {
					three++
				}
			}
		}
	}
	if two != 2*8 || three != 8*2+8*8 {
		t.Errorf("of two bytes %d are requests, of three %d", two, three)
	}
}

// P18.1: all bytes of a Create.
func TestGetAllCreates(t *testing.T) {
	for n := range 65536 {
		b := []byte{1, 5, byte(n >> 8), byte(n)}
		if r, err := Get(b); err != nil || r != (api.Req{Op: 1, Tenant: 5, N: n}) {
			t.Fatalf("Get(%x) tells %+v, %v", b, r, err)
		}
	}
}

// P18.1, R3: each Op's bytes cut short anywhere, and with more behind them.
func TestGetLengths(t *testing.T) {
	rnd := rand.New(rand.NewSource(188))
	for op := 1; op <= 21; op++ {
		for _, r := range some(rnd, op) {
			b := laid(r)
			holdGet(t, b)
			for n := range b {
				refuseGet(t, b[:n])
				refuseGet(t, bytes.Clone(b[:n]))
			}
			for last := range 256 {
				refuseGet(t, append(bytes.Clone(b), byte(last)))
			}
			refuseGet(t, append(bytes.Clone(b), b...))
			for n := 1; n <= 64; n++ {
				refuseGet(t, append(bytes.Clone(b), make([]byte, n)...))
				refuseGet(t, append(bytes.Clone(b), bytes.Repeat([]byte{255}, n)...))
			}
		}
		for n := range 64 {
			holdGet(t, append([]byte{byte(op), 1}, make([]byte, n)...))
		}
	}
	for _, n := range []int{255, 256, 257, 258, 266, 65536, 65538, 1 << 20} {
		refuseGet(t, make([]byte, n))
		refuseGet(t, bytes.Repeat([]byte{1}, n))
		refuseGet(t, bytes.Repeat([]byte{5}, n))
		refuseGet(t, append([]byte{21, 1}, make([]byte, n)...))
		refuseGet(t, append([]byte{5, 1, 3}, make([]byte, n)...))
	}
}

// P18.1, P18.3: each Op's bytes with any one of them changed to any other.
func TestGetEachByte(t *testing.T) {
	rnd := rand.New(rand.NewSource(189))
	for op := 1; op <= 21; op++ {
		for _, r := range some(rnd, op) {
			for at := range laid(r) {
				b := laid(r)
				for x := range 256 {
					b[at] = byte(x)
					holdGet(t, b)
				}
			}
		}
	}
}

// P18.1, R3: bytes that are an Op's but for an N, a Bit, a Tenant or an Op that may not be, by hand.
func TestGetAmiss(t *testing.T) {
	const a = "0102030405060708"
	for _, s := range []string{
		"0001", "1601", "1701", "8201", "ff01", "0101", "0200", "0209", "02ff", "1500", "1509", "1581",
		"01000000", "01090000", "01ff1234", "00010000",
		"0400" + "01", "0409" + "01", "040102", "0401ff", "040180",
		"050008", "050108", "0501ff", "050187", "050900", "050000",
		"0300" + a, "0309" + a, "0600" + a, "0609" + a, "1409" + a, "1601" + a, "0001" + a,
		"0700" + a + a, "0709" + a + a, "1300" + a + a, "0a00" + a + a + a, "0a09" + a + a + a,
		"0b01" + a + "0800", "0b01" + a + "0702", "0b01" + a + "07ff", "0b01" + a + "ff01", "0b00" + a + "0701", "0b09" + a + "0701", "0b01" + a + "0108",
		"0c01" + a + "08" + a, "0c01" + a + "ff" + a, "0c00" + a + "07" + a, "0c09" + a + "07" + a,
		"0d01" + a + "08", "0d01" + a + "ff", "0d00" + a + "07", "0e01" + a + "08", "0e01" + a + "ff", "0e09" + a + "07",
		"0f00" + a + "ff", "0f09" + a + "ff",
	} {
		refuseGet(t, written(t, s))
	}
	for _, s := range []string{"0f01" + a + "ff", "0f01" + a + "08", "0d01" + a + "07", "0e08" + a + "00", "0b01" + a + "0701"} {
		if _, err := Get(written(t, s)); err != nil {
			t.Errorf("Get(%s) tells %v", s, err)
		}
	}
}

// P18.1, P18.3: many requests, and many bytes of all kinds, drawn at random.
func TestRequestsAtRandom(t *testing.T) {
	rnd := rand.New(rand.NewSource(190))
	for range 100000 {
		r := drawn(rnd, 1+rnd.Intn(21))
		holdPut(t, r)
		b := laid(r)
		holdGet(t, b)
		switch rnd.Intn(4) {
		case 0:
			b[rnd.Intn(len(b))] ^= 1 << rnd.Intn(8)
		case 1:
			at := rnd.Intn(len(b))
			b = append(b[:at], b[at+1:]...)
		case 2:
			at := rnd.Intn(len(b) + 1)
			b = append(b[:at], append([]byte{byte(rnd.Intn(256))}, b[at:]...)...)
		case 3:
			at, other := rnd.Intn(len(b)), rnd.Intn(len(b))
			b[at], b[other] = b[other], b[at]
		}
		holdGet(t, b)
	}
	for range 200000 {
		b := make([]byte, rnd.Intn(30))
		rnd.Read(b)
		if len(b) > 1 && rnd.Intn(4) > 0 {
			b[0], b[1] = byte(rnd.Intn(24)), byte(rnd.Intn(10))
		}
		holdGet(t, b)
	}
	for range 100000 {
		holdPut(t, api.Req{Op: rnd.Intn(24), Tenant: rnd.Intn(10), A: rnd.Uint64() >> rnd.Intn(65), B: rnd.Uint64() >> rnd.Intn(65), C: rnd.Uint64() >> rnd.Intn(65), N: rnd.Intn(300) - 20, Bit: rnd.Intn(4) - 1})
		holdPut(t, api.Req{Op: int(rnd.Uint64()), Tenant: int(rnd.Uint64()), A: rnd.Uint64(), B: rnd.Uint64(), C: rnd.Uint64(), N: int(rnd.Uint64()), Bit: int(rnd.Uint64())})
	}
}

// P18.1, P18.3: all Codes and Tenants, with Vals, Charges and Costs at their edges.
func TestPutRespEdges(t *testing.T) {
	for code := -1; code <= 8; code++ {
		for tenant := -1; tenant <= 9; tenant++ {
			for _, val := range []uint64{0, 1, 0x0102030405060708, 1 << 63, 1<<64 - 1} {
				for _, charge := range []int{-1, 0, 1, 0x0102, 65535, 65536} {
					for _, cost := range []int{math.MinInt, -1, 0, 1, 0x0102030405060708, math.MaxInt} {
						holdPutResp(t, api.Resp{Code: code, Tenant: tenant, Val: val, Charge: charge, Cost: cost})
					}
				}
			}
		}
	}
}

// P18.1, R3, P1: any number as each of an answer's parts, the others being right.
func TestPutRespParts(t *testing.T) {
	rnd := rand.New(rand.NewSource(191))
	for _, r := range []api.Resp{{}, {Code: 7, Tenant: 8, Val: 1<<64 - 1, Charge: 65535, Cost: math.MaxInt}, drawnResp(rnd), drawnResp(rnd), drawnResp(rnd)} {
		code, tenant, charge, cost, val := r, r, r, r, r
		for _, n := range ints() {
			code.Code, tenant.Tenant, charge.Charge, cost.Cost = n, n, n, n
			for _, x := range []api.Resp{code, tenant, charge, cost} {
				holdPutResp(t, x)
			}
			if n < 0 || n > 7 {
				refusePutResp(t, code)
			}
			if n < 0 || n > 8 {
				refusePutResp(t, tenant)
			}
			if n < 0 || n > 65535 {
				refusePutResp(t, charge)
			}
			if n < 0 {
				refusePutResp(t, cost)
			}
		}
		for _, val.Val = range words() {
			holdPutResp(t, val)
		}
		for charge := range 65536 {
			r.Charge = charge
			holdPutResp(t, r)
		}
	}
}

// P18.1, R3, P1: answers' bytes of all lengths.
func TestGetRespLengths(t *testing.T) {
	rnd := rand.New(rand.NewSource(192))
	refuseGetResp(t, nil)
	refuseGetResp(t, []byte{})
	for n := range 300 {
		for _, x := range []byte{0, 1, 7} {
			b := bytes.Repeat([]byte{x}, n)
			holdGetResp(t, b)
			if n != 20 {
				refuseGetResp(t, b)
			}
		}
	}
	for range 100 {
		b := laidResp(drawnResp(rnd))
		holdGetResp(t, b)
		for n := range b {
			refuseGetResp(t, b[:n])
			refuseGetResp(t, bytes.Clone(b[:n]))
		}
		for x := range 256 {
			refuseGetResp(t, append(bytes.Clone(b), byte(x)))
			refuseGetResp(t, append([]byte{byte(x)}, b...))
		}
		refuseGetResp(t, append(bytes.Clone(b), b...))
	}
	refuseGetResp(t, make([]byte, 1<<20))
}

// P18.1, P18.3, R3: answers' bytes with any one of them changed to any other; those of a Code, a Tenant and a Cost that may not be, by hand.
func TestGetRespEachByte(t *testing.T) {
	rnd := rand.New(rand.NewSource(193))
	for range 20 {
		b := laidResp(drawnResp(rnd))
		for at := range b {
			for x := range 256 {
				c := bytes.Clone(b)
				c[at] = byte(x)
				holdGetResp(t, c)
				if at == 0 && x > 7 || at == 1 && x > 8 || at == 12 && x > 127 {
					refuseGetResp(t, c)
				} else if _, err := GetResp(c); err != nil {
					t.Fatalf("GetResp(%x) tells %v", c, err)
				}
			}
		}
	}
	for _, s := range []string{
		"0800" + "0000000000000000" + "0000" + "0000000000000000",
		"ff01" + "0000000000000000" + "0000" + "0000000000000000",
		"0009" + "0000000000000000" + "0000" + "0000000000000000",
		"00ff" + "0000000000000000" + "0000" + "0000000000000000",
		"0001" + "0000000000000000" + "0000" + "8000000000000000",
		"0001" + "0000000000000000" + "0000" + "ffffffffffffffff",
		"0809" + "ffffffffffffffff" + "ffff" + "ffffffffffffffff",
	} {
		refuseGetResp(t, written(t, s))
	}
}

// P18.1, P18.3: many answers, and many bytes, drawn at random.
func TestAnswersAtRandom(t *testing.T) {
	rnd := rand.New(rand.NewSource(194))
	l := ints()
	for range 100000 {
		r := drawnResp(rnd)
		holdPutResp(t, r)
		b := laidResp(r)
		holdGetResp(t, b)
		b[rnd.Intn(len(b))] ^= 1 << rnd.Intn(8)
		holdGetResp(t, b)
		rnd.Read(b)
		holdGetResp(t, b)
		b[0], b[1] = byte(rnd.Intn(10)), byte(rnd.Intn(10))
		holdGetResp(t, b)
		holdPutResp(t, api.Resp{Code: rnd.Intn(10) - 1, Tenant: rnd.Intn(11) - 1, Val: rnd.Uint64(), Charge: rnd.Intn(70000) - 1000, Cost: l[rnd.Intn(len(l))]})
		holdPutResp(t, api.Resp{Code: int(rnd.Uint64()), Tenant: int(rnd.Uint64()), Val: rnd.Uint64(), Charge: int(rnd.Uint64()), Cost: int(rnd.Uint64())})
	}
}

// spoil writes other bytes into b and all that lies behind it in its array.
func spoil(b []byte) {
	b = b[:cap(b)]
	for i := range b {
		b[i] ^= 0xff
	}
}

// P18.2, R2: what is written into bytes that were told, or behind them, changes nothing that was or will be told.
func TestNewMemory(t *testing.T) {
	rnd := rand.New(rand.NewSource(195))
	for op := 1; op <= 21; op++ {
		for _, r := range some(rnd, op) {
			x := drawnResp(rnd)
			first, _ := Put(r)
			second, _ := Put(r)
			answer, _ := PutResp(x)
			another, _ := PutResp(x)
			spoil(first)
			if !bytes.Equal(second, laid(r)) {
				t.Fatalf("Put(%+v) told %x, which is %x now", r, laid(r), second)
			}
			spoil(answer)
			if !bytes.Equal(another, laidResp(x)) {
				t.Fatalf("PutResp(%+v) told %x, which is %x now", x, laidResp(x), another)
			}
			if !bytes.Equal(second, laid(r)) {
				t.Fatalf("Put(%+v) told %x, which is %x now", r, laid(r), second)
			}
			spoil(second)
			spoil(another)
			holdPut(t, r)
			holdPutResp(t, x)
		}
	}
}

// P18.2, R2: many are told ahead of any being looked at, and all are as they were told.
func TestManyTold(t *testing.T) {
	rnd := rand.New(rand.NewSource(196))
	var reqs []api.Req
	var resps []api.Resp
	var told, answers [][]byte
	for i := range 5000 {
		r, x := drawn(rnd, 1+i%21), drawnResp(rnd)
		b, _ := Put(r)
		c, _ := PutResp(x)
		reqs, resps, told, answers = append(reqs, r), append(resps, x), append(told, b), append(answers, c)
	}
	for _, i := range rnd.Perm(len(reqs)) {
		if !bytes.Equal(told[i], laid(reqs[i])) || !bytes.Equal(answers[i], laidResp(resps[i])) {
			t.Fatalf("of %+v and %+v there are told %x and %x", reqs[i], resps[i], told[i], answers[i])
		}
		spoil(told[i])
		spoil(answers[i])
	}
}

// P18.2, R2: bytes that are handed in stay, and what lies behind them, which isn't read; nor are they kept.
func TestHandedIn(t *testing.T) {
	rnd := rand.New(rand.NewSource(197))
	for op := 1; op <= 21; op++ {
		for _, r := range some(rnd, op) {
			for _, behind := range []byte{0, 1, 255} {
				x := drawnResp(rnd)
				req := append(laid(r), bytes.Repeat([]byte{behind}, 40)...)
				resp := append(laidResp(x), bytes.Repeat([]byte{behind}, 40)...)
				n := len(laid(r))
				for cut := range len(req) {
					was := bytes.Clone(req)
					if got, err := Get(req[:cut]); (err == nil) != (cut == n) || err == nil && got != r {
						t.Fatalf("Get(%x) tells %+v, %v", req[:cut], got, err)
					}
					if !bytes.Equal(req, was) {
						t.Fatalf("Get(%x) left %x", was, req)
					}
				}
				for cut := range len(resp) {
					was := bytes.Clone(resp)
					if got, err := GetResp(resp[:cut]); (err == nil) != (cut == 20) || err == nil && got != x {
						t.Fatalf("GetResp(%x) tells %+v, %v", resp[:cut], got, err)
					}
					if !bytes.Equal(resp, was) {
						t.Fatalf("GetResp(%x) left %x", was, resp)
					}
				}
				got, _ := Get(req[:n])
				answer, _ := GetResp(resp[:20])
				spoil(req)
				spoil(resp)
				if back, err := Put(got); err != nil || !bytes.Equal(back, laid(r)) {
					t.Fatalf("what was got of %x is put as %x, %v", laid(r), back, err)
				}
				if back, err := PutResp(answer); err != nil || !bytes.Equal(back, laidResp(x)) {
					t.Fatalf("what was got of %x is put as %x, %v", laidResp(x), back, err)
				}
			}
		}
	}
}

// P18.3: no two requests have the same bytes, nor two answers.
func TestNoTwoAlike(t *testing.T) {
	rnd := rand.New(rand.NewSource(198))
	reqs, resps := map[string]api.Req{}, map[string]api.Resp{}
	for range 100000 {
		r, x := drawn(rnd, 1+rnd.Intn(21)), drawnResp(rnd)
		b, _ := Put(r)
		if other, is := reqs[string(b)]; is && other != r {
			t.Fatalf("%+v and %+v are both put as %x", r, other, b)
		}
		reqs[string(b)] = r
		c, _ := PutResp(x)
		if other, is := resps[string(c)]; is && other != x {
			t.Fatalf("%+v and %+v are both put as %x", x, other, c)
		}
		resps[string(c)] = x
	}
}
