/-
  The walk of the law IntegerForms: long arguments, and short ones.
-/
import Derived.Test.YtacfdcfkfjildaaDoorFormL
namespace Go.Proofs.YtacfdcfkfjildaaDoor
open Go.RowKit

set_option maxRecDepth 100000 in
theorem integerforms_any {A A' : Option Addr} {n n' c c' : Nat} {s s' : Bool} {w : World} (HA : n ≤ 20 → ∃ ds, Raw w (.slice A n c) ds) (HB : n' ≤ 20 → ∃ ds, Raw w (.slice A' n' c') ds) (z : Int) (hz0 : -9223372036854775808 ≤ z) (hz1 : z ≤ 9223372036854775807) :
    Calls Tryd.prog 9 #[.agg #[.bool s, .slice A n c], .agg #[.bool s', .slice A' n' c'], .int .i64 z] w fun e w' => e = .returned (.bool true) ∧ Below w.heap.size w w' := by
  rcases Nat.lt_or_ge 20 n with h | h
  · clear HA HB
    go_enter Tryd.func9, Tryd.ntmps9
    go_wp2_with fail
    obtain ⟨W, hW, b0, b1, b2, hbW, hsz⟩ := boxes3 w #[.bool s, .slice A n c] #[.bool s', .slice A' n' c'] #[.slice A n c, .slice A' n' c'] 64 64 23
    rw [hW]
    refine (smallb_first (b2.cell 0 _ rfl) h).mono ?_
    rintro e w' ⟨rfl, rfl⟩
    clear hW b0 b1 b2 hsz
    go_wp2_with fail
    refine (known2_any _).mono ?_
    rintro e w2 ⟨rfl, hb⟩
    have hbf := hbW.trans (hb.mono hbW.size)
    go_wp2_with fail
    go_returns
    exact ⟨rfl, hbf⟩
  · rcases Nat.lt_or_ge 20 n' with h' | h'
    · clear HA HB
      go_enter Tryd.func9, Tryd.ntmps9
      go_wp2_with fail
      obtain ⟨W, hW, b0, b1, b2, hbW, hsz⟩ := boxes3 w #[.bool s, .slice A n c] #[.bool s', .slice A' n' c'] #[.slice A n c, .slice A' n' c'] 64 64 23
      rw [hW]
      refine (smallb_second (b2.cell 0 _ rfl) (b2.cell 1 _ rfl) h h').mono ?_
      rintro e w' ⟨rfl, rfl⟩
      clear hW b0 b1 b2 hsz
      go_wp2_with fail
      refine (known2_any _).mono ?_
      rintro e w2 ⟨rfl, hb⟩
      have hbf := hbW.trans (hb.mono hbW.size)
      go_wp2_with fail
      go_returns
      exact ⟨rfl, hbf⟩
    · obtain ⟨ds, hr⟩ := HA h
      obtain ⟨es, hr'⟩ := HB h'
      exact integerforms_small (za := sg s (val ds)) (zb := sg s' (val es)) h h' ⟨val ds, ⟨ds, hr, rfl, by rw [← hr.cap.1]; exact h⟩, rfl⟩ ⟨val es, ⟨es, hr', rfl, by rw [← hr'.cap.1]; exact h'⟩, rfl⟩ hr hz0 hz1
end Go.Proofs.YtacfdcfkfjildaaDoor
