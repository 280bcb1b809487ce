/-
  The contract of Format.
-/
import Derived.Test.YtkhfadfjkmhpgaaDoorBase
import Derived.Test.YtkhfadfjkmhpgaaDoorDivD
import Derived.Test.YtkhfadfjkmhpgaaDoorBytes
import Derived.Test.YtkhfadfjkmhpgaaDoorDec
import Derived.Test.YtkhfadfjkmhpgaaDoorTape
import Derived.Test.YtkhfadfjkmhpgaaDoorTapeNat
import Derived.Laws.IdiomStrings
namespace Go.Proofs.YtkhfadfjkmhpgaaDoor
open Go.RowKit

/-- What strconv.AppendUint does at t, in every world behind w. -/
def AppOk (w : World) (t : Nat) : Prop := ∀ W : World, Below w.heap.size w W → Calls Tryd.prog 76 #[.slice none 0 0, .int .u64 (t : Int), .int .i64 10] W fun e W' => ∃ v, e = .returned v ∧ GrowB W' W.heap.size v (decs t) ∧ Below W.heap.size W W'

theorem GrowB.other {w w' : World} {B b : Nat} {v : Value} {ds : List Nat} (h : GrowB w B v ds) (hg : w.grownBy w' (some b)) (hb : b < B) : GrowB w' B v ds := by
  obtain ⟨hd, h1, h2⟩ := h
  refine ⟨hd, h1, ?_⟩
  rcases h2 with h2 | ⟨g, cap, cur, hv, hgB, hh, h3⟩
  · exact .inl h2
  · refine .inr ⟨g, cap, cur, hv, hgB, (hg.block g ?_ (by intro e; injection e with e; omega)).trans hh, h3⟩
    rcases Nat.lt_or_ge g w.heap.size with hlt | hge
    · exact hlt
    · rw [Array.getElem?_eq_none hge] at hh; cases hh
theorem okB_of {bs : List Nat} (h : ∀ b ∈ bs, b < 58) : OkB bs := fun b hb => by have := h b hb; omega

theorem ownb_lit (w : World) (cs : Array Value) (ds : List Nat) (h : cs.toList = ds.map bv) : OwnB (w.alloc (.cells cs 5)) w.heap.size ds :=
  ⟨[], by rw [heap_alloc_new, List.append_nil, ← h]⟩
theorem okB_one {a : Nat} (ha : a < 256) : OkB [a] := okB_cons.2 ⟨ha, okB_nil⟩
def lenV : Value → Nat | .slice _ n _ => n | _ => 0
/-- A string of bytes given as numbers. -/
def strB (bs : List Nat) : ByteArray := ⟨(bs.map UInt8.ofNat).toArray⟩

theorem convert_back {w : World} {B : Nat} {v : Value} {bs : List Nat} (h : GrowB w B v bs) (hne : bs ≠ []) :
    (convert 105 9 v).run Tryd.prog w = .ok (.string (strB bs)) w := by
  obtain ⟨g, cap, rfl, _, hown, _⟩ := h.own hne
  have := run_convert_bytes_back (P := Tryd.prog) w 105 9 5 ⟨g, 0, none⟩ cap (bs.map UInt8.ofNat) Tryd.underlying105 Tryd.underlying5 Tryd.underlying9 (fun j hj => by
    have hj' : j < bs.length := by simpa using hj
    rw [addr_add_lit, Nat.zero_add, hown.cell hj', List.getD_eq_getElem?_getD, List.getElem?_eq_getElem hj']
    have hb := h.okB _ (List.getElem_mem hj')
    have e : (bs.map UInt8.ofNat)[j] = UInt8.ofNat bs[j] := by simp
    rw [e, UInt8.toNat_ofNat_of_lt' (by exact hb)]
    rfl)
  rw [List.length_map] at this
  exact this

set_option maxRecDepth 100000 in
set_option maxHeartbeats 2000000 in
theorem format_pos {A : Option Addr} {n c x : Nat} {ds : List Nat} {w : World} (hx : Raw w (.slice A n c) ds) (hvx : Hid (val ds = x)) (hx0 : 0 < x) (hA : AppOk w (top9 x)) (hl : ds.length ≤ 1000) :
    Calls Tryd.prog 64 #[.slice A n c] w fun e w' => e = .returned (.string (strB (decs x))) ∧ Below w.heap.size w w' := by
  have hne : digs x ≠ [] := by rw [Ne, digs_eq_nil]; omega
  have hdl : (digs x).length ≤ ds.length := by rw [← hvx.out]; exact digs_length_le (val_lt hx.okD)
  have hxB : x < Bs ds.length := by rw [← hvx.out]; exact val_lt hx.okD
  have HXB := Lib.hid hxB
  have HA := Lib.hid hA
  clear hxB hA
  go_enter Tryd.func64, Tryd.ntmps64
  go_wp2_with fail
  refine (norm_is hx hvx).mono ?_
  rintro e w1 ⟨v, rfl, hg, hb⟩
  obtain ⟨g0, cap0, rfl, hgB, hown, hcap⟩ := hg.own hne
  have hg0lt := hown.lt
  go_wp2_with fail
  go_loopw [3, 4] (fun r o wr => ∃ (y g cap : Nat) (gs : List Nat), r = .slice (some ⟨g, 0, none⟩) (digs y).length cap ∧ (digs y).length ≤ cap ∧ (digs y).length ≤ 1000 ∧ w.heap.size ≤ g ∧ g < w1.heap.size ∧ Own wr g (digs y) ∧ Grow wr w1.heap.size o gs ∧ Below w.heap.size w wr ∧ w1.heap.size ≤ wr.heap.size ∧
      Groups x y gs ∧ gs.length ≤ 2 * ds.length ∧ (∀ t ∈ gs, t < 1000000000) ∧ 2 ^ (29 * gs.length) * y ≤ x ∧ y ≤ x) (fun _ o _ => 2 * ds.length + 1 - lenV o)
  case atStart =>
    refine ⟨x, g0, cap0, [], rfl, hcap, by omega, hgB, hg0lt, hown, grow_nil _ _, hb, Nat.le_refl _, groups_start hx0, by simp, by simp, by simp, Nat.le_refl _⟩
  case round =>
    obtain ⟨y, g, cap, gs, rfl, hyc, hyl, hgw, hgl, hyo, hgg, hbr, hsz, hG, hgsl, hgsd, hpow, hyx⟩ := hrel
    have HG := Lib.hid hG
    have HD := Lib.hid hgsd
    have HP := Lib.hid hpow
    clear hG hgsd hpow
    obtain ⟨A1, c1, rfl⟩ := hgg.form
    obtain ⟨wa, rfl⟩ : ∃ wo : World, wo = wr := ⟨_, rfl⟩
    rcases Nat.eq_zero_or_pos y with rfl | hy
    · obtain ⟨gs', t, hgs, htt, ht0, ht9, hdec⟩ := HG.out.2 rfl
      have hdz : (digs 0).length = 0 := by rw [digs_zero]; rfl
      have hglen : gs.length = gs'.length + 1 := by rw [hgs]; simp
      have hraw := hgg.raw (by omega)
      have hsz2 := hbr.size
      rw [hdz]
      obtain ⟨ad, hA1, hb1, hct⟩ := hraw.at_ (j := gs'.length) (by omega)
      subst hA1
      have hgt : gs.getD gs'.length 0 = t := by rw [hgs, List.getD_eq_getElem?_getD, List.getElem?_append_right (Nat.le_refl _)]; simp
      rw [hgt] at hct
      have hlen0 : ((gs.length : Int) == 0) = false := by rw [beq_eq_false_iff_ne]; omega
      have hi1 : (gs.length : Int) - 1 = (gs'.length : Int) := by omega
      have HGS := Lib.hid hgs
      have HTT := Lib.hid htt
      have HDEC := Lib.hid hdec
      have HGL := Lib.hid hglen
      have HGT := Lib.hid hgt
      clear hgs htt hdec hgt
      rw [hglen] at hraw hgsl hlen0 hi1 ⊢
      clear hglen
      have hA := HA.out
      rw [← HTT.out] at hA
      have hdl2 : (decs x).length ≤ 9 + 9 * gs'.length := by
        rw [HDEC.out, List.length_append, pads_length]
        have := decs_length 9 t (by rw [show (10 : Nat) ^ 9 = 1000000000 from rfl]; exact ht9)
        omega
      have HDL := Lib.hid hdl2
      have HA2 := Lib.hid hA
      clear hdl2 hA
      go_wp2_with fail
      refine (HA2.out _ hbr).mono ?_
      rintro e w2 ⟨v2, rfl, hg2, hb2⟩
      go_wp2_with fail
      go_loopw [6, 7] (fun tx i wb => ∃ (k : Nat) (bs : List Nat), i = .int .i64 ((k : Int) - 1) ∧ k ≤ gs'.length ∧ GrowB wb wa.heap.size tx bs ∧ bs ++ pads (gs'.take k) = decs x ∧ Below wa.heap.size wa wb) (fun _ i _ => (intOf i + 1).toNat)
      case atStart => exact ⟨gs'.length, decs t, rfl, Nat.le_refl _, hg2, by rw [List.take_of_length_le (Nat.le_refl _), HDEC.out], hb2⟩
      case round =>
        obtain ⟨k, bs, rfl, hk, hgb, hbs, hb3⟩ := hrel
        obtain ⟨wb, rfl⟩ : ∃ wo : World, wo = wr := ⟨_, rfl⟩
        have HBS := Lib.hid hbs
        clear hbs
        rcases Nat.eq_zero_or_pos k with rfl | hk0
        · have hbx : bs = decs x := by rw [← HBS.out, List.take_zero, pads, List.append_nil]
          have hnex : decs x ≠ [] := by rw [decs_pos hx0]; simp
          have hconv := convert_back hgb (by rw [hbx]; exact hnex)
          rw [hbx] at hconv
          have HBX := Lib.hid hbx
          clear hbx hnex
          have hbf : Below w.heap.size w wb := hbr.trans (hb3.mono hsz2)
          go_wp2_with fail
          go_ret
          exact ⟨rfl, hbf⟩
        · obtain ⟨m, rfl⟩ : ∃ m, k = m + 1 := ⟨k - 1, by omega⟩
          have ei : ((m + 1 : Nat) : Int) - 1 = (m : Int) := by omega
          rw [ei]
          clear ei
          have hml : m < gs.length := by rw [HGL.out]; omega
          obtain ⟨gm, hgm⟩ : ∃ d, gs.getD m 0 = d := ⟨_, rfl⟩
          have hgm' : gs'.getD m 0 = gm := by
            rw [← hgm, HGS.out, List.getD_eq_getElem?_getD, List.getD_eq_getElem?_getD, List.getElem?_append_left (by omega)]
          have hgm9 : gm < 1000000000 := by
            rw [← hgm, List.getD_eq_getElem?_getD, List.getElem?_eq_getElem hml]
            exact HD.out _ (List.getElem_mem hml)
          obtain ⟨ad', hA', hb1', hcm⟩ := hraw.at_ hml
          obtain rfl : ad = ad' := Option.some.inj hA'
          rw [hgm] at hcm
          have HGM := Lib.hid hgm'
          clear hgm hgm'
          have hbl : bs.length + 9 * (m + 1) ≤ 9 + 9 * gs'.length := by
            have h := congrArg List.length HBS.out
            rw [List.length_append, pads_length, List.length_take, Nat.min_eq_left (by omega)] at h
            have := HDL.out
            omega
          go_wp2_with fail
          go_loopw [6, 8] (fun tx sv wr => ∃ (j sc : Nat) (bs' : List Nat), sv = .int .u32 sc ∧ sc = 100000000 / 10 ^ j ∧ j ≤ 9 ∧ GrowB wr wa.heap.size tx bs' ∧ bs' = bs ++ (pad 9 gm).take j ∧ Below wa.heap.size wa wr) (fun _ sv _ => (intOf sv).toNat)
          case atStart => exact ⟨0, 100000000, bs, rfl, rfl, by omega, hgb, by simp, hb3⟩
          case round =>
            obtain ⟨j, sc, bs', rfl, hsc, hj, hgb4, hbs', hb4⟩ := hrel
            have HSC := Lib.hid hsc
            have HB4 := Lib.hid hbs'
            clear hsc hbs'
            rcases Nat.lt_or_ge j 9 with hj9 | hj9
            · have hsc0 : 0 < sc := by rw [HSC.out, scale_pow hj9]; exact Nat.pow_pos (by omega)
              have hscm : sc ≤ 100000000 := by rw [HSC.out]; exact Nat.div_le_self _ _
              have hc4 : wr.cell? (ad.add m) = some (.int .u32 (gm : Int)) := (hb4.cell (by rw [addr_add_block]; exact hb1')).trans hcm
              have hb4s := hb4.size
              obtain ⟨dg, hdg⟩ : ∃ d, d = gm / sc % 10 := ⟨_, rfl⟩
              have hdg10 : dg < 10 := by omega
              have hdi : (gm : Int) / (sc : Int) % 4294967296 % 10 = (dg : Int) := by
                have hq : gm / sc ≤ gm := Nat.div_le_self _ _
                rw [hdg, show (gm : Int) / (sc : Int) = ((gm / sc : Nat) : Int) by norm_cast]
                generalize gm / sc = q at hq ⊢
                omega
              have HDI := Lib.hid hdi
              clear hdi
              have hl4 : bs'.length ≤ bs.length + 9 := by
                rw [HB4.out, List.length_append, List.length_take, pad_length]; omega
              have HDG := Lib.hid hdg
              clear hdg
              have hlit := (ownb_lit wr #[.int .u8 (48 + (gm : Int) / (sc : Int) % 4294967296 % 10)] [48 + dg] (by rw [HDI.out]; simp [bv])).rawB_all (okB_one (by omega)) (by simp) 1 1 rfl (Nat.le_refl _)
              go_wp2_with (at_builtin; refine wpList_append_bytes rfl _ _ _ _ rfl Tryd.underlying105 Tryd.underlying105 wa.heap.size rfl (growb_alloc hgb4 _) rfl hlit (by simp; omega) (by simp; omega) ?_; intro v5 w5 hg5 hgr5 hb5)
              have hb6 := (hb4.alloc hb4s (.cells #[.int .u8 (48 + (gm : Int) / (sc : Int) % 4294967296 % 10)] 5)).trans hb5
              go_roundw
              case rel =>
                refine ⟨j + 1, sc / 10, _, by congr 1, by rw [HSC.out, scale_step], by omega, hg5, ?_, hb6⟩
                rw [HB4.out, pad_take_succ hj9, ← scale_pow hj9, ← HSC.out, ← HDG.out, List.append_assoc]
              case measure => simp [intOf]; omega
            · obtain rfl : j = 9 := by omega
              have hsc0 : sc = 0 := HSC.out
              subst hsc0
              go_wp2_with fail
              go_roundw
              case rel =>
                refine ⟨m, bs', rfl, by omega, hgb4, ?_, hb4⟩
                have h := HBS.out
                rw [pads_take_succ (by omega), HGM.out, ← List.append_assoc] at h
                rw [HB4.out, List.take_of_length_le (by rw [pad_length]; omega)]
                exact h
              case measure => simp [intOf]
    · have hyne : digs y ≠ [] := by rw [Ne, digs_eq_nil]; omega
      have hylen : 0 < (digs y).length := List.length_pos_iff.2 hyne
      have hsz2 := hbr.size
      have hgc : 29 * gs.length < 32 * ds.length := group_count HXB.out HP.out hy
      have hnum : val (digs y) % 1000000000 = y % 1000000000 := by rw [val_digs]
      go_wp2_with fail
      refine (divd_any (d := 1000000000) (by omega) (by omega) hyo (okD_digs y) (by omega)).mono ?_
      rintro e w2 ⟨qs, rfl, hown2, hqd, hql, hgr, hqv⟩
      rw [val_digs] at hqv
      rw [hnum]
      obtain ⟨t, ht⟩ : ∃ t, t = y % 1000000000 := ⟨_, rfl⟩
      rw [← ht]
      have hgg2 := hgg.other hgr hgl
      have hb2 := hbr.grown hgr hsz2 (by rintro k hk; injection hk with hk; omega)
      have hsz3 := hgr.size
      have hsz4 : w1.heap.size ≤ w2.heap.size := by omega
      have HQV := Lib.hid hqv
      have HQL := Lib.hid hql
      have HT := Lib.hid ht
      have ht9 : t < 1000000000 := by omega
      clear hqv hql ht hnum
      have hlit := (own_lit w2 #[.int .u32 (t : Int)] [t] rfl).raw_all (okD_one (by omega)) (by simp) 1 1 rfl (Nat.le_refl _)
      go_wp2_with (at_builtin; refine wpList_append_digs rfl _ _ _ _ rfl Tryd.underlying25 Tryd.underlying25 w1.heap.size rfl (grow_alloc hgg2 _) rfl hlit (by simp; omega) (by simp; omega) ?_; intro v3 w3 hg3 hgr3 hb3)
      have hb4 : Below w1.heap.size w2 w3 := ((Below.refl w1.heap.size w2).alloc hsz4 (.cells #[.int .u32 (t : Int)] 68)).trans hb3
      have hown3 := hown2.below hb4 hgl
      have hraw3 := hown3.raw_all hqd (by rw [HQL.out]; omega) (digs y).length cap HQL.out.symm hyc
      have hbf := hb2.trans (hb4.mono hb.size)
      have hszf : w1.heap.size ≤ w3.heap.size := Nat.le_trans hsz4 hb4.size
      go_wp2_with fail
      refine (trim_any hraw3).mono ?_
      rintro e w4 ⟨rfl, hN, htake, rfl⟩
      rw [HQV.out] at hN htake ⊢
      have hown4 := hown3.pre (digs (y / 1000000000)).length
      rw [← htake] at hown4
      have HTK := Lib.hid htake
      clear htake
      go_wp2_with fail
      go_roundw
      case rel =>
        have hl2 : (digs (y / 1000000000)).length ≤ (digs y).length := digs_length_mono (Nat.div_le_self _ _)
        refine ⟨y / 1000000000, g, cap, _, rfl, by omega, by omega, hgw, hgl, hown4, hg3, hbf, hszf, ?_, by simp; omega, ?_, ?_, by omega⟩
        · rw [HT.out]; exact groups_step HG.out hy
        · intro u hu
          rw [List.mem_append] at hu
          rcases hu with hu | hu
          · exact HD.out u hu
          · simp at hu; omega
        · rw [List.length_append]; exact group_step HP.out
      case measure =>
        obtain ⟨A3, c3, e3⟩ := hg3.form
        rw [e3]
        simp [lenV]
        omega
end Go.Proofs.YtkhfadfjkmhpgaaDoor
