/- platterlaw.Refuses answers true. -/
import Derived.Test.YtdcinlkkjbclmaaGreatLRef0
import Derived.Test.YtdcinlkkjbclmaaGreatLRef1
import Derived.Test.YtdcinlkkjbclmaaGreatLRef2
import Derived.Test.YtdcinlkkjbclmaaGreatLRef3
import Derived.Test.YtdcinlkkjbclmaaGreatLRef4
namespace Go.Proofs.YtdcinlkkjbclmaaGreat
open Go.RowKit

theorem refuses_walk (d s k n disk id : Int) (da : Option Addr) (dn dc : Nat) (cs : List Value) (W : World) (hd1 : -9223372036854775808 ≤ id) (hd2 : id ≤ 9223372036854775807) (hdl : cs.length = dn) (hdn : dn ≤ maxLen) (hdo : ∀ v ∈ cs, v.oneCell' = true) (hda : ∀ j v, cs[j]? = some v → ∃ g o, da = some ⟨g, o, none⟩ ∧ W.cell? ⟨g, o + j, none⟩ = some v) :
    Calls Tryz.prog 8 #[.int .i64 d, .int .i64 s, .agg #[.int .i64 k, .int .i64 n, .slice da dn dc], .int .i64 disk, .int .i64 id] W fun e W' => e = .returned (.bool true) ∧ Below W.heap.size W W' := by
  by_cases h : (4 ≤ d ∧ d ≤ 8) ∧ (1 ≤ s ∧ s ≤ 6)
  · obtain ⟨D, rfl⟩ := Int.eq_ofNat_of_zero_le (show 0 ≤ d by omega)
    obtain ⟨S, rfl⟩ := Int.eq_ofNat_of_zero_le (show 0 ≤ s by omega)
    have hD4 : 4 ≤ D := by omega
    have hD : D ≤ 8 := by omega
    have hS1 : 1 ≤ S := by omega
    have hS : S ≤ 6 := by omega
    by_cases h1 : k = 1
    · subst h1; exact refuse_k1 D S n disk id da dn dc cs W hD4 hD hS1 hS hd1 hd2 hdl hdn hdo hda
    · by_cases h2 : k = 2
      · subst h2; exact refuse_k2 D S n disk id da dn dc cs W hD4 hD hS1 hS hd1 hd2 hdl hdn hdo hda
      · by_cases h3 : k = 3
        · subst h3; exact refuse_k3 D S n disk id da dn dc cs W hD4 hD hS1 hS hd1 hd2 hdl hdn hdo hda
        · by_cases h4 : k = 4
          · subst h4; exact refuse_k4 D S n disk id da dn dc cs W hD4 hD hS1 hS hd1 hd2 hdl hdn hdo hda
          · exact refuse_k0 D S k n disk id da dn dc cs W h1 h2 h3 h4 hD4 hD hS1 hS hd1 hd2 hdl hdn hdo hda
  · exact refuse_bad d s k n disk id da dn dc W h

end Go.Proofs.YtdcinlkkjbclmaaGreat
