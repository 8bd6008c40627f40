package exchange_test

import (
	"testing"

	"sectime/api"
	"sectime/exchange"
)

func checkDelay(t *testing.T, s api.Sample, want int, wanted api.Errno) {
	t.Helper()
	if got, e := exchange.Delay(s); got != want || e != wanted {
		t.Fatalf("Delay of %+v is %d and %v, want %d and %v", s, got, e, want, wanted)
	}
}

func checkOffset(t *testing.T, s api.Sample, want api.Span, wanted api.Errno) {
	t.Helper()
	if got, e := exchange.Offset(s); got != want || e != wanted {
		t.Fatalf("Offset of %+v is %v and %v, want %v and %v", s, got, e, want, wanted)
	}
}

func TestKnownOffsets(t *testing.T) {
	for _, c := range []struct {
		s      api.Sample
		delay  int
		e      api.Errno
		offset api.Span
		f      api.Errno
	}{
		{api.Sample{}, 0, api.OK, span(0, 0), api.OK},
		{sample(100, 1150, 1160, 200, 7), 90, api.OK, span(960, 1050), api.OK},
		{sample(1150, 100, 110, 1250, 7), 90, api.OK, span(-1140, -1050), api.OK},
		// What the server's readings may be wrong by has no part in it.
		{sample(100, 1150, 1160, 200, most), 90, api.OK, span(960, 1050), api.OK},
		// A server that holds the question as long as the client waits leaves no delay, and one instant less is none that can be.
		{sample(0, 50, 60, 10, 0), 0, api.OK, span(50, 50), api.OK},
		{sample(0, 50, 61, 10, 0), 0, api.ErrSample, api.Span{}, api.ErrSample},
		{sample(0, 0, 1, 0, 0), 0, api.ErrSample, api.Span{}, api.ErrSample},
		// The longest times between readings.
		{sample(-most, -most, most, most, 0), 0, api.OK, span(0, 0), api.OK},
		{sample(0, -most, most, 0, 0), 0, api.ErrSample, api.Span{}, api.ErrSample},
		{sample(-most, 0, 0, 0, 0), most, api.OK, span(0, most), api.OK},
		{sample(0, 0, 0, most, 0), most, api.OK, span(-most, 0), api.OK},
		// A delay may be too long although both ends of the offset are valid, and the other way round.
		{sample(-most, 0, 0, most, 0), 0, api.ErrRange, span(-most, most), api.OK},
		{sample(-half, 0, 0, half+1, 0), 0, api.ErrRange, span(-half-1, half), api.OK},
		{sample(-half, 0, 0, half, 0), most, api.OK, span(-half, half), api.OK},
		{sample(-most, 1, 1, 0, 0), most, api.OK, api.Span{}, api.ErrRange},
		{sample(-most, 1, 2, 1, 0), most, api.OK, api.Span{}, api.ErrRange},
		{sample(0, -1, -1, most, 0), most, api.OK, api.Span{}, api.ErrRange},
		{sample(1, -most, -most, 1, 0), 0, api.OK, api.Span{}, api.ErrRange},
		{sample(-1, most, most, -1, 0), 0, api.OK, api.Span{}, api.ErrRange},
		{sample(-1, most-1, most-1, -1, 0), 0, api.OK, span(most, most), api.OK},
		{sample(1, 1-most, 1-most, 1, 0), 0, api.OK, span(-most, -most), api.OK},
		// Only one end is out of its range.
		{sample(-most, 1, most, most, 0), 0, api.ErrRange, api.Span{}, api.ErrRange},
		{sample(-1, most, most, 3, 0), 4, api.OK, api.Span{}, api.ErrRange},
		{sample(-1, -most, -most, 1, 0), 2, api.OK, api.Span{}, api.ErrRange},
		// A negative delay comes before a span that is not valid.
		{sample(-1, most-1, most, -1, 0), 0, api.ErrSample, api.Span{}, api.ErrSample},
		{sample(most, -most, 1-most, most, 0), 0, api.ErrSample, api.Span{}, api.ErrSample},
	} {
		checkDelay(t, c.s, c.delay, c.e)
		checkOffset(t, c.s, c.offset, c.f)
	}
}

func TestOffsets(t *testing.T) {
	for _, s := range append(append(edges(0), small()...), random(2, 20000)...) {
		delay, e := standardDelay(s)
		checkDelay(t, s, delay, e)
		offset, e := standardOffset(s)
		checkOffset(t, s, offset, e)
	}
}

// The offset is as wide as the delay is long.
func TestWidthOfOffsets(t *testing.T) {
	for _, s := range append(small(), random(3, 20000)...) {
		delay, e := exchange.Delay(s)
		offset, f := exchange.Offset(s)
		if e == api.OK && f == api.OK && offset.Hi-offset.Lo != delay {
			t.Fatal(s, delay, offset)
		}
	}
}
