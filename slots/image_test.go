package slots

import (
	"math/rand"
	"strings"
	"testing"

	"slots/api"
)

const (
	leastInt = -1 << 63
	mostInt  = 1<<63 - 1
)

var (
	someItem = api.Item{Size: 5, Speed: 7, Need: api.Cold}
	someBin  = api.Bin{Id: 3, Zone: 2, Cap: 20, Used: 4, Has: api.Safe}
)

// ops makes bytes of operations that have none behind them.
func ops(codes ...byte) string { return string(codes) }

func intOp(v int64) string {
	row := []byte{api.Int}
	for i := 0; i < 8; i++ {
		row = append(row, byte(v>>(8*i)))
	}
	return string(row)
}

func attrOp(attribute byte) string { return ops(api.Attr, attribute) }

func jumpOp(code byte, distance int) string {
	return ops(code, byte(distance), byte(distance>>8))
}

func imageOf(high int, code ...string) string {
	return "SL" + string([]byte{byte(high)}) + strings.Join(code, "")
}

func wantVerify(t *testing.T, image string, want api.Errno) {
	t.Helper()
	if err := Verify(image); err != want {
		t.Errorf("P5: Verify(%.60q) of %d bytes = %d, want %d", image, len(image), err, want)
	}
	err := api.OK
	if !refIsImage(image) {
		err = api.ErrImage
	}
	if err != want {
		t.Errorf("the second reading of %.60q = %d, want %d", image, err, want)
	}
}

func wantRun(t *testing.T, image string, item api.Item, bin api.Bin, want api.Result, wantErr api.Errno) {
	t.Helper()
	if got, err := Run(image, item, bin); got != want || err != wantErr {
		t.Errorf("P6: Run(%.60q, %v, %v) = %v, %d, want %v, %d", image, item, bin, got, err, want, wantErr)
	}
	if got, err := refRun(image, item, bin); got != want || err != wantErr {
		t.Errorf("the second reading of %.60q with %v, %v = %v, %d, want %v, %d", image, item, bin, got, err, want, wantErr)
	}
}

func rejected(steps int) api.Result { return api.Result{Kind: api.Rejected, Steps: steps} }

func scored(value int, steps int) api.Result {
	return api.Result{Kind: api.Scored, Value: value, Steps: steps}
}

func faulted(fault int, steps int) api.Result {
	return api.Result{Kind: api.Faulted, Value: fault, Steps: steps}
}

// compareImage holds Verify and Run against the second reading.
func compareImage(t *testing.T, image string, item api.Item, bin api.Bin) bool {
	t.Helper()
	sound := refIsImage(image)
	if (Verify(image) == api.OK) != sound {
		t.Fatalf("P5: Verify(%q) = %d, an image: %v", image, Verify(image), sound)
	}
	got, err := Run(image, item, bin)
	if want, wantErr := refRun(image, item, bin); got != want || err != wantErr {
		t.Fatalf("P6: Run(%q, %v, %v) = %v, %d, want %v, %d", image, item, bin, got, err, want, wantErr)
	}
	return sound
}

func TestAllShortImages(t *testing.T) {
	pieces := []string{
		intOp(0), attrOp(api.Zone), ops(api.Neg), ops(api.Add), ops(api.Score), ops(api.Reject),
		jumpOp(api.Jump, 0), jumpOp(api.Jump, 1), jumpOp(api.Jump, 2), jumpOp(api.IfFalse, 0), jumpOp(api.IfTrue, 1), jumpOp(api.IfTrue, 9),
	}
	sound := 0
	rows := []string{""}
	for length := 1; length <= 5; length++ {
		longer := []string{}
		for _, row := range rows {
			for _, piece := range pieces {
				longer = append(longer, row+piece)
				for high := 0; high <= 2; high++ {
					image := imageOf(high, row, piece)
					is := compareImage(t, image, someItem, someBin)
					if length <= 4 && is != refIsImageByAll(image) {
						t.Fatalf("the two second readings of %q are not one", image)
					}
					if is {
						sound++
					}
				}
			}
		}
		rows = longer
	}
	if sound < 400 {
		t.Errorf("only %d images", sound)
	}
}

// imager makes the bytes of operations.
type imager struct {
	*rand.Rand
}

func (m imager) number() int64 {
	switch m.Intn(6) {
	case 0:
		return leastInt + int64(m.Intn(3))
	case 1:
		return mostInt - int64(m.Intn(3))
	case 2:
		return int64(m.Uint64())
	case 3:
		return int64(m.Uint64()) >> 31
	}
	return int64(m.Intn(7) - 3)
}

// value makes operations that lay one number.
func (m imager) value(depth int) string {
	choice := m.Intn(10)
	if depth == 0 || choice == 0 {
		return intOp(m.number())
	}
	switch choice {
	case 1, 2:
		return attrOp(byte(m.Intn(7)))
	case 3:
		return m.value(depth-1) + ops(byte(api.Neg+m.Intn(2)))
	case 4:
		left, right := m.value(depth-1), m.value(depth-1)
		return m.value(depth-1) + jumpOp(byte(api.IfFalse+m.Intn(2)), len(left)+3) + left + jumpOp(api.Jump, len(right)) + right
	case 5:
		// Something is laid and taken again, or left out.
		left := m.value(depth-1) + jumpOp(api.IfTrue, 0)
		return m.value(depth-1) + jumpOp(byte(api.IfFalse+m.Intn(2)), len(left)) + left + m.value(depth-1)
	}
	return m.value(depth-1) + m.value(depth-1) + ops(byte(api.Add+m.Intn(9)))
}

// act makes operations that end.
func (m imager) act(depth int) string {
	if depth == 0 || m.Intn(3) == 0 {
		if m.Intn(4) == 0 {
			return ops(api.Reject)
		}
		return m.value(m.Intn(4)) + ops(api.Score)
	}
	first := m.act(depth - 1)
	return m.value(m.Intn(3)) + jumpOp(byte(api.IfFalse+m.Intn(2)), len(first)) + first + m.act(depth-1)
}

func (m imager) item() api.Item {
	return api.Item{Size: 1 + m.Intn(1000), Speed: m.Intn(1001), Need: m.Intn(3)}
}

func (m imager) bin() api.Bin {
	full := 1 + m.Intn(1000)
	return api.Bin{Id: m.Intn(1001), Zone: m.Intn(10), Cap: full, Used: m.Intn(full + 1), Has: m.Intn(3)}
}

// broken changes, drops or adds a byte.
func (m imager) broken(image string) string {
	at := m.Intn(len(image))
	some := string([]byte{byte(m.Intn(20))})
	if m.Intn(4) == 0 {
		some = string([]byte{byte(m.Intn(256))})
	}
	switch m.Intn(4) {
	case 0:
		return image[:at] + image[at+1:]
	case 1:
		return image[:at] + some + image[at:]
	}
	return image[:at] + some + image[at+1:]
}

func TestMadeImages(t *testing.T) {
	m := imager{rand.New(rand.NewSource(2))}
	stillSound, broken := 0, 0
	for range 6000 {
		code := m.act(m.Intn(4))
		if len(code) > 3997 {
			continue
		}
		high := 0
		for high < 255 && !refIsImage(imageOf(high, code)) {
			high++
		}
		for less := 0; less < high; less++ {
			wantVerify(t, imageOf(less, code), api.ErrImage)
		}
		image := imageOf(high, code)
		wantVerify(t, image, api.OK)
		wantVerify(t, imageOf(255, code), api.OK)
		for range 4 {
			compareImage(t, image, m.item(), m.bin())
		}
		for range 8 {
			other := m.broken(image)
			if m.Intn(3) == 0 {
				other = m.broken(other)
			}
			if compareImage(t, other, m.item(), m.bin()) {
				stillSound++
			} else {
				broken++
			}
		}
	}
	if stillSound < 1000 || broken < 1000 {
		t.Errorf("only %d sound and %d broken images", stillSound, broken)
	}
}

func TestImagesOfSomeBytes(t *testing.T) {
	m := imager{rand.New(rand.NewSource(3))}
	sound := 0
	for range 300000 {
		row := []byte{byte(m.Intn(3))}
		for range 1 + m.Intn(9) {
			row = append(row, byte(m.Intn(19)))
		}
		if compareImage(t, "SL"+string(row), someItem, someBin) {
			sound++
		}
	}
	if sound < 100 {
		t.Errorf("only %d images", sound)
	}
}
