package journal

import (
	"testing"

	"platter/api"
	"platter/stripe"
)

func TestOwnSectors(t *testing.T) {
	if LabelSector < 0 || LabelSector >= FirstSector || FirstSector+Sectors > api.Own {
		t.Errorf("the label at %d and the record at %d to %d are not among the %d own sectors", LabelSector, FirstSector, FirstSector+Sectors-1, api.Own)
	}
}

func TestLabels(t *testing.T) {
	const blocks = api.MaxStripes * (api.MaxDisks - 2)
	labels := []Label{{}, {Member: true}}
	for block := range blocks {
		labels = append(labels, Label{Member: true, Pending: true, Block: block})
	}
	seen := map[stripe.Sector]Label{}
	for _, label := range labels {
		sector := label.Write()
		if other, ok := seen[sector]; ok {
			t.Errorf("%+v and %+v are written alike", label, other)
		}
		seen[sector] = label
		if got := ReadLabel(sector, blocks); got != label {
			t.Errorf("%+v is read as %+v", label, got)
		}
	}
}

func TestNewDiskIsNoMember(t *testing.T) {
	if got := ReadLabel(stripe.Sector{}, 36); got != (Label{}) {
		t.Errorf("the label of a new disk is %+v", got)
	}
}

// TestAnySector: a label that was never written names no block that there is not.
func TestAnySector(t *testing.T) {
	for first := range 256 {
		for second := range 256 {
			label := ReadLabel(stripe.Sector{byte(first), byte(second)}, 2)
			if label.Block < 0 || label.Block > 1 || label.Pending && !label.Member || !label.Pending && label.Block != 0 {
				t.Fatalf("bytes %d, %d are read as %+v", first, second, label)
			}
		}
	}
}

func TestRecords(t *testing.T) {
	var record Record
	for i := range api.Block {
		record.Data[i], record.P[i], record.Q[i] = byte(i+1), byte(i+101), byte(i+201)
	}
	if got := ReadRecord(record.Write()); got != record {
		t.Errorf("%v is read as %v", record, got)
	}
}
