package cabin

import (
	"math"
	"math/rand"
	"strings"
	"testing"

	"tarmac/api"
)

func wantLabel(t *testing.T, want string, seat api.Seat) {
	t.Helper()
	if got := Label(seat); got != want {
		t.Fatalf("Label of %v: %q, not %q", seat, got, want)
	}
}

func wantParse(t *testing.T, want api.Seat, is bool, text string) {
	t.Helper()
	if got, ok := Parse(text); got != want || ok != is {
		t.Fatalf("Parse of %.1000q: %v, %t, not %v, %t", text, got, ok, want, is)
	}
}

func wantNoLabel(t *testing.T, text string) {
	t.Helper()
	wantParse(t, api.Seat{}, false, text)
}

// P13.1: the chapter's examples.
func TestLabelExamples(t *testing.T) {
	wantLabel(t, "12C", at(12, 'C'))
	wantParse(t, at(12, 'C'), true, "12C")
	for _, text := range []string{"012C", "12c", "100A"} {
		wantNoLabel(t, text)
	}
}

// P13.1, P13.4: each seat that has a label, and those beside them.
func TestLabelsOfSeats(t *testing.T) {
	labels := paperLabels()
	texts := map[api.Seat]string{}
	for text, seat := range labels {
		texts[seat] = text
	}
	found := 0
	for number := -12; number <= 120; number++ {
		for letter := range 256 {
			seat := at(number, byte(letter))
			text, ok := texts[seat]
			if !ok {
				wantLabel(t, "-", seat)
				continue
			}
			wantLabel(t, text, seat)
			wantParse(t, seat, true, Label(seat))
			found++
		}
	}
	if found != 99*26 || len(labels) != found {
		t.Fatalf("%d seats have labels", found)
	}
	for _, number := range []int{math.MinInt, math.MaxInt, -1, 0, 100, 1 + 256, 999, 1 << 32, 1<<32 + 1} {
		wantLabel(t, "-", at(number, 'A'))
	}
	wantLabel(t, "-", api.Seat{})
}

// P13.1: texts that no seat has as its label.
func TestTextsThatAreNoLabel(t *testing.T) {
	for _, text := range []string{
		"", "-", "--", "-A", "A", "Z", "1", "12", "99", "0", "0A", "00A", "01A", "001A", "012C", "-1A", "-0A", "+1A", "+12C", "1-A",
		"1a", "12c", "99z", "100A", "101A", "999A", "1000A", " 1A", "1 A", "1A ", "1A\n", "\t1A", "1AA", "1A1", "A1", "1A-", "-1", "1_2C", "1_A", "0x1A", "1e1A", "1.A", "1.0A", "1,A",
		"1@", "1[", "1`", "1{", "1/", "1:", "1.", "1\x00", "1\xff", "1\xc1", "1Ä", "1\u0391", "1\uff21", "\uff11A", "\u0661A", "\x31\x80A", "²A",
		"\x00A", "\x001A", "1A\x00", "18446744073709551617A", "9223372036854775808A", "4294967297A", "257A", strings.Repeat("1", 1000) + "A", strings.Repeat("0", 1000) + "1A", strings.Repeat("A", 1000),
	} {
		wantNoLabel(t, text)
	}
}

// P13.1, P13.4: all short texts over what labels are made of, and what stands beside it.
func TestAllShortTexts(t *testing.T) {
	labels := paperLabels()
	signs := "0129AZ-+ a@[/:.\x00\xff"
	texts := []string{""}
	found := 0
	for range 5 {
		var longer []string
		for _, text := range texts {
			seat, ok := labels[text]
			wantParse(t, seat, ok, text)
			if ok {
				wantLabel(t, text, seat)
				found++
			}
			for i := range len(signs) {
				longer = append(longer, text+signs[i:i+1])
			}
		}
		texts = longer
	}
	if found != 15*2 {
		t.Fatalf("%d labels came", found)
	}
}

// P13.1: a label that is changed at one place is another seat's label, or none.
func TestChangedLabels(t *testing.T) {
	labels := paperLabels()
	draw := rand.New(rand.NewSource(1305))
	right, wrong := 0, 0
	for range 60000 {
		text := Label(at(1+draw.Intn(99), byte('A'+draw.Intn(26))))
		i := draw.Intn(len(text) + 1)
		sign := string([]byte{byte(draw.Intn(256))})
		if draw.Intn(2) == 0 {
			sign = "0123456789ABYZ"[draw.Intn(14):][:1]
		}
		switch cut := draw.Intn(3); {
		case cut == 0:
			text = text[:i] + sign + text[i:]
		case i < len(text) && cut == 1:
			text = text[:i] + sign + text[i+1:]
		case i < len(text):
			text = text[:i] + text[i+1:]
		}
		seat, ok := labels[text]
		wantParse(t, seat, ok, text)
		if ok {
			right++
		} else {
			wrong++
		}
	}
	if right < 1000 || wrong < 1000 {
		t.Fatalf("%d labels, %d other texts: the texts say too little", right, wrong)
	}
}
