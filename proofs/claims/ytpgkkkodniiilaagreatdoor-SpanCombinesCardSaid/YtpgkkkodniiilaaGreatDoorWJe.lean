/-
  SortFunc, SortedFunc, tally.sorted, Join.
-/
import Derived.Test.YtpgkkkodniiilaaGreatDoorWJc
import Derived.Test.YtpgkkkodniiilaaGreatDoorWShelf
import Derived.IntWalk
import Derived.Deep.Cut
import Derived.Test.YtpgkkkodniiilaaGreatDoorWCf
namespace Go.Proofs.YtpgkkkodniiilaaGreatDoor
open Go.RowKit

section
variable {f0 h0 f1 h1 f2 h2 f3 h3 f4 h4 f5 h5 f6 h6 f7 h7 f8 h8 f9 h9 f10 h10 f11 h11 : Bool} {A0 A1 A2 A3 A4 A5 A6 A7 A8 A9 A10 A11 A12 A13 A14 A15 A16 A17 A18 A19 A20 A21 A22 A23 D0 D1 D2 D3 D4 D5 D6 D7 D8 D9 D10 D11 D12 D13 D14 D15 D16 D17 D18 D19 D20 D21 D22 D23 : Option Addr} {n0 n1 n2 n3 n4 n5 n6 n7 n8 n9 n10 n11 n12 n13 n14 n15 n16 n17 n18 n19 n20 n21 n22 n23 c0 c1 c2 c3 c4 c5 c6 c7 c8 c9 c10 c11 c12 c13 c14 c15 c16 c17 c18 c19 c20 c21 c22 c23 m0 m1 m2 m3 m4 m5 m6 m7 m8 m9 m10 m11 m12 m13 m14 m15 m16 m17 m18 m19 m20 m21 m22 m23 e0 e1 e2 e3 e4 e5 e6 e7 e8 e9 e10 e11 e12 e13 e14 e15 e16 e17 e18 e19 e20 e21 e22 e23 : Nat} {s0 s1 s2 s3 s4 s5 s6 s7 s8 s9 s10 s11 s12 s13 s14 s15 s16 s17 s18 s19 s20 s21 s22 s23 : Bool} {q0 q1 q2 q3 q4 q5 q6 q7 : Rat} {z0 z1 z2 z3 z4 z5 z6 z7 z8 z9 z10 z11 : Int} {L L0 L1 x y : Nat} {k : Int} {b : Bool} {w : World}
variable {o0 o1 o2 o3 : Option Rat} {l l' : List Sp}
def Tryz.lays125_ren : Go.Shelf.Ren := ⟨fun | 125 => 154 | 128 => 158 | 129 => 174 | n => n, fun | 46 => 161 | 3 => 3 | 51 => 160 | 53 => 121 | 4 => 4 | 5 => 5 | 9 => 9 | n => n, fun | n => n⟩
theorem Tryz.lays125 : Go.Proofs.Lays.n125 Tryz.prog Tryz.lays125_ren := {
  mixed := by kernel_rfl
  f125 := Tryz.func154.trans (congrArg some (by kernel_rfl))
  f128 := Tryz.func158.trans (congrArg some (by kernel_rfl))
  f129 := Tryz.func174.trans (congrArg some (by kernel_rfl))
  t3 := Tryz.underlying3
  a3 := Tryz.isAgg3
  z3 := Tryz.sizeOf3
  v3 := Tryz.zeroValue3
  t4 := Tryz.underlying4
  a4 := Tryz.isAgg4
  z4 := Tryz.sizeOf4
  v4 := Tryz.zeroValue4
  t5 := Tryz.underlying5
  a5 := Tryz.isAgg5
  z5 := Tryz.sizeOf5
  v5 := Tryz.zeroValue5
  t9 := Tryz.underlying9
  a9 := Tryz.isAgg9
  z9 := Tryz.sizeOf9
  v9 := Tryz.zeroValue9
  t46 := Tryz.underlying161
  a46 := Tryz.isAgg161
  z46 := Tryz.sizeOf161
  v46 := Tryz.zeroValue161
  t51 := Tryz.underlying160
  a51 := Tryz.isAgg160
  z51 := Tryz.sizeOf160
  v51 := Tryz.zeroValue160
  t53 := Tryz.underlying121
  a53 := Tryz.isAgg121
  z53 := Tryz.sizeOf121
  v53 := Tryz.zeroValue121 }
theorem Tryz.bits_Len (x : Int) (w : World) (h0 : 0 ≤ x) (h1 : x ≤ 18446744073709551615) :
    Calls Tryz.prog 154 #[.int .u64 x] w fun e w' => e = .returned (.int .i64 (Lib.bitLen x.toNat)) ∧ w' = w := Any.bits_Len Tryz.lays125 x w h0 h1
set_option maxRecDepth 100000 in
set_option maxHeartbeats 4000000 in
theorem pdq_v (y : Int) {B n c : Nat} {A : Option Addr} {ps : List (E4 × Rat)} (hO : OwnE w B 133 4 (.slice A n c) (rowsOf ps)) (hF : Fct w L ps) (hn : n ≤ 12) (hB : B ≤ w.heap.size) (hL : L ≤ 100000) :
    Calls Tryz.prog 153 #[.slice A n c, .int .i64 0, .int .i64 (n : Int), .int .i64 y, .func (.func 102) #[] #[]] w fun e w' => e = .returned (.tuple #[]) ∧ (OwnE w' B 133 4 (.slice A n c) (rowsOf (srt (fun p => p.2) (n - 1) 1 ps)) ∧ Fct w' L (srt (fun p => p.2) (n - 1) 1 ps)) ∧ Below B w w' := by
  go_enter Tryz.func153, Tryz.ntmps153
  go_wp2_with fail
  refine wp_loop_rounds 1 ?_
  rw [rounds_succ]
  have hd : decide ((n : Int) ≤ 12) = true := decide_eq_true (by omega)
  have hw1 : IntKind.i64.wrap (n : Int) = n := IntWalk.i64_in _ (by omega)
  go_wp2_with fail
  refine (isort_v hO hF (by omega) hB hL).mono ?_
  rintro e w' ⟨rfl, h1, h2⟩
  go_wp2_with fail
  exact bodyPost_ret (results_none rfl _ _ _) rfl ⟨rfl, h1, h2⟩
set_option maxRecDepth 100000 in
set_option maxHeartbeats 4000000 in
theorem sortf_v {B n c : Nat} {A : Option Addr} {ps : List (E4 × Rat)} (hO : OwnE w B 133 4 (.slice A n c) (rowsOf ps)) (hF : Fct w L ps) (hn : n ≤ 12) (hB : B ≤ w.heap.size) (hL : L ≤ 100000) :
    Calls Tryz.prog 128 #[.slice A n c, .func (.func 102) #[] #[]] w fun e w' => e = .returned (.tuple #[]) ∧ (OwnE w' B 133 4 (.slice A n c) (rowsOf (srt (fun p => p.2) (n - 1) 1 ps)) ∧ Fct w' L (srt (fun p => p.2) (n - 1) 1 ps)) ∧ Below B w w' := by
  go_enter Tryz.func128, Tryz.ntmps128
  have hw1 : IntKind.i64.wrap (n : Int) = n := IntWalk.i64_in _ (by omega)
  have hw2 : IntKind.u64.wrap (n : Int) = n := IntWalk.u64_in _ (by omega)
  go_wp2_with fail
  refine (Tryz.bits_Len n w (by omega) (by omega)).mono ?_
  rintro e w' ⟨rfl, rfl⟩
  go_wp2_with fail
  refine (pdq_v _ hO hF hn hB hL).mono ?_
  rintro e w' ⟨rfl, h1, h2⟩
  go_wp2_with fail
  go_end0
  exact ⟨rfl, h1, h2⟩
set_option maxRecDepth 100000 in
set_option maxHeartbeats 4000000 in
theorem sortedf_v {n c Bq : Nat} {A : Option Addr} {ps : List (E4 × Rat)} (hBq : w.cell? ⟨Bq, 0, none⟩ = some (.slice A n c)) (hS : ReadR w 4 (.slice A n c) (rowsOf ps)) (hF : Fct w L ps) (hn : ps.length ≤ 12) (hL : L ≤ 100000) :
    Calls Tryz.prog 100 #[.func (.func 129) #[] #[.pointer (some ⟨Bq, 0, none⟩)], .func (.func 102) #[] #[]] w fun e w' => ∃ A' c', e = .returned (.slice A' ps.length c') ∧ OwnE w' w.heap.size 133 4 (.slice A' ps.length c') (rowsOf (srt (fun p => p.2) (ps.length - 1) 1 ps)) ∧ Fct w' L (srt (fun p => p.2) (ps.length - 1) 1 ps) ∧ Below w.heap.size w w' := by
  go_enter Tryz.func100, Tryz.ntmps100
  go_wp2_with fail
  refine (collect_v Bq (ps.map (·.1)) (by rw [List.length_map]; omega) hBq (by rw [← rowsOf_map]; exact hS)).mono ?_
  rintro e w1 ⟨A', c', rfl, hO, hb⟩
  rw [← rowsOf_map] at hO
  rw [List.length_map] at hO ⊢
  have hF1 := hF.below hb
  go_wp2_with fail
  refine (sortf_v hO hF1 hn hb.size hL).mono ?_
  rintro e w2 ⟨rfl, h1, h2⟩
  go_wp2_with fail
  go_ret
  exact ⟨A', c', rfl, h1.1, h1.2, hb.trans h2⟩
/-- The ends that rows hold. -/
def evO (ps : List (E4 × Rat)) : List (Rat × Int) := ps.map fun p => (p.2, p.1.k)
theorem ens_ps {v : Value} {m : List (Rat × Int)} (h : EnS w L v m) : ∃ ps : List (E4 × Rat), ReadR w 4 v (rowsOf ps) ∧ Fct w L ps ∧ evO ps = m := by
  obtain ⟨css, h1, h2⟩ := h
  have key : ∃ ps : List (E4 × Rat), css = rowsOf ps ∧ Fct w L ps ∧ evO ps = m := by
    clear h1
    induction m generalizing css with
    | nil => cases css with
      | nil => exact ⟨[], rfl, fun p hp => (by cases hp), rfl⟩
      | cons _ _ => cases h2
    | cons e m ih => cases css with
      | nil => cases h2
      | cons cs css =>
        obtain ⟨⟨s0, A0, n0, c0, D0, m0, e0, hcs, hq⟩, h3⟩ := h2
        obtain ⟨ps, hp1, hp2, hp3⟩ := ih _ h3
        refine ⟨(⟨s0, A0, n0, c0, D0, m0, e0, e.2⟩, e.1) :: ps, by rw [hcs, hp1]; rfl, fun p hp => ?_, by rw [← hp3]; rfl⟩
        rcases List.mem_cons.1 hp with e9 | hp
        · subst e9; exact hq
        · exact hp2 p hp
  obtain ⟨ps, rfl, h3, h4⟩ := key
  exact ⟨ps, h1, h3, h4⟩
theorem ps_ens {v : Value} {ps : List (E4 × Rat)} (hR : ReadR w 4 v (rowsOf ps)) (hF : Fct w L ps) : EnS w L v (evO ps) := by
  refine ⟨rowsOf ps, hR, ?_⟩
  clear hR
  induction ps with
  | nil => trivial
  | cons p ps ih => exact ⟨⟨p.1.s, p.1.A, p.1.n, p.1.c, p.1.D, p.1.m, p.1.e, rfl, hF p (List.mem_cons_self ..)⟩, ih fun q hq => hF q (List.mem_cons_of_mem _ hq)⟩
theorem srt_evO (ps : List (E4 × Rat)) : (evO (srt (fun p => p.2) (ps.length - 1) 1 ps)).Perm (evO ps) ∧ AscW (evO (srt (fun p => p.2) (ps.length - 1) 1 ps)) := by
  have hp := srt_perm (v := fun p : E4 × Rat => p.2) (ps.length - 1) 1 ps
  refine ⟨hp.map _, ascW_of fun a b x y hab hb hx hy => ?_⟩
  have hu := srt_all (v := fun p : E4 × Rat => p.2) ps
  unfold evO at hx hy hb
  rw [List.getElem?_map] at hx hy
  rw [List.length_map, hp.length_eq] at hb
  obtain ⟨p, hp1, rfl⟩ := Option.map_eq_some_iff.1 hx
  obtain ⟨q, hq1, rfl⟩ := Option.map_eq_some_iff.1 hy
  exact hu a b p q hab hb hp1 hq1
end
end Go.Proofs.YtpgkkkodniiilaaGreatDoor
namespace Go.Proofs.YtpgkkkodniiilaaGreatDoor
open Go.RowKit

section
variable {f0 h0 f1 h1 f2 h2 f3 h3 f4 h4 f5 h5 f6 h6 f7 h7 f8 h8 f9 h9 f10 h10 f11 h11 : Bool} {A0 A1 A2 A3 A4 A5 A6 A7 A8 A9 A10 A11 A12 A13 A14 A15 A16 A17 A18 A19 A20 A21 A22 A23 D0 D1 D2 D3 D4 D5 D6 D7 D8 D9 D10 D11 D12 D13 D14 D15 D16 D17 D18 D19 D20 D21 D22 D23 : Option Addr} {n0 n1 n2 n3 n4 n5 n6 n7 n8 n9 n10 n11 n12 n13 n14 n15 n16 n17 n18 n19 n20 n21 n22 n23 c0 c1 c2 c3 c4 c5 c6 c7 c8 c9 c10 c11 c12 c13 c14 c15 c16 c17 c18 c19 c20 c21 c22 c23 m0 m1 m2 m3 m4 m5 m6 m7 m8 m9 m10 m11 m12 m13 m14 m15 m16 m17 m18 m19 m20 m21 m22 m23 e0 e1 e2 e3 e4 e5 e6 e7 e8 e9 e10 e11 e12 e13 e14 e15 e16 e17 e18 e19 e20 e21 e22 e23 : Nat} {s0 s1 s2 s3 s4 s5 s6 s7 s8 s9 s10 s11 s12 s13 s14 s15 s16 s17 s18 s19 s20 s21 s22 s23 : Bool} {q0 q1 q2 q3 q4 q5 q6 q7 : Rat} {z0 z1 z2 z3 z4 z5 z6 z7 z8 z9 z10 z11 : Int} {L L0 L1 x y : Nat} {k : Int} {b : Bool} {w : World}
variable {o0 o1 o2 o3 : Option Rat} {l l' : List Sp}
theorem vals_b (A : Option Addr) (n c : Nat) (w : World) :
    Calls Tryz.prog 101 #[.slice A n c] w fun e w' => e = .returned (.func (.func 129) #[] #[.pointer (some ⟨w.heap.size, 0, none⟩)]) ∧ Box w' w.heap.size #[.slice A n c] 91 ∧ Below w.heap.size w w' := by
  refine (vals_v A n c w).mono ?_
  rintro e w' ⟨rfl, rfl⟩
  obtain ⟨W, rfl, h1, h2, _⟩ := boxes1 w #[.slice A n c] 91
  exact ⟨rfl, h1, h2⟩
/-- A list of ends of one's own. -/
def SrtF (w : World) (B L : Nat) (v : Value) (ps : List (E4 × Rat)) : Prop := OwnE w B 133 4 v (rowsOf ps) ∧ Fct w L ps
theorem SrtF.below {w' : World} {B : Nat} {v : Value} {ps : List (E4 × Rat)} (h : SrtF w B L v ps) (hb : Below w.heap.size w w') : SrtF w' B L v ps := ⟨h.1.below hb, h.2.below hb⟩
theorem SrtF.kept {w' : World} {B g : Nat} {v : Value} {cs : Array Value} {ps : List (E4 × Rat)} (h : SrtF w B L v ps) (hb : Box w g cs 93) (hc : cs.all notInt = true) (hg : w.grownBy w' (some g)) : SrtF w' B L v ps := by
  refine ⟨h.1.kept hg (.inr fun e => ?_), (firm_fct L ps).kept h.2 hb hc hg⟩
  rcases h.1.2.1.2 with ⟨h1, _⟩ | ⟨g', cap, cur, h1, _, hgb, _⟩
  · rw [h1] at e; cases e
  · rw [h1] at e
    have e9 : g' = g := by simpa [Value.ownBlock] using e
    subst e9
    have h9 := hgb.symm.trans hb
    injection h9 with h9
    injection h9 with _ h9 _
    exact absurd h9 (by decide)
theorem sortedf_s {n c Bq : Nat} {A : Option Addr} {ps : List (E4 × Rat)} (hBq : w.cell? ⟨Bq, 0, none⟩ = some (.slice A n c)) (hS : ReadR w 4 (.slice A n c) (rowsOf ps)) (hF : Fct w L ps) (hn : ps.length ≤ 12) (hL : L ≤ 100000) :
    Calls Tryz.prog 100 #[.func (.func 129) #[] #[.pointer (some ⟨Bq, 0, none⟩)], .func (.func 102) #[] #[]] w fun e w' => ∃ A' n' c', e = .returned (.slice A' n' c') ∧ SrtF w' w.heap.size L (.slice A' n' c') (srt (fun p => p.2) (ps.length - 1) 1 ps) ∧ Below w.heap.size w w' := by
  refine (sortedf_v hBq hS hF hn hL).mono ?_
  rintro e w' ⟨A', c', rfl, h1, h2, hb⟩
  exact ⟨A', _, c', rfl, ⟨h1, h2⟩, hb⟩
theorem tEnds_unit (l : List Sp) : Unit1 (tEnds l) := by
  intro e he
  obtain ⟨s, _, hs⟩ := List.mem_flatMap.1 he
  obtain ⟨lo, hi⟩ := s
  unfold sEnds at hs
  cases lo <;> cases hi <;> simp at hs
  · exact .inr (by rw [hs])
  · exact .inl (by rw [hs])
  · rcases hs with hs | hs
    · exact .inl (by rw [hs])
    · exact .inr (by rw [hs])
theorem Unit1.perm {a b : List (Rat × Int)} (h : Unit1 a) (hp : b.Perm a) : Unit1 b := fun e he => h e (hp.mem_iff.1 he)
set_option maxRecDepth 100000 in
set_option maxHeartbeats 4000000 in
theorem sorted_v {vc : Value} {o : Int} {m : List (Rat × Int)} (hC : TalV w L vc o m) (hn : m.length ≤ 12) (hL : L ≤ 100000) :
    Calls Tryz.prog 63 #[vc] w fun e w' => ∃ y m', e = .returned y ∧ TalV w' L y o m' ∧ m'.Perm m ∧ AscW m' ∧ Below w.heap.size w w' := by
  obtain ⟨A, n, c, rfl, hE⟩ := hC
  obtain ⟨ps, hR, hF, rfl⟩ := ens_ps hE
  have hn9 : ps.length ≤ 12 := by simpa [evO] using hn
  have HN := Lib.hid hn9
  clear hE hn hn9
  go_enter Tryz.func63, Tryz.ntmps63
  go_wp2_with fail
  obtain ⟨W0, hW, b1, b2, hbW, hszW0⟩ := boxes2 w #[.int .i64 o, .slice A n c] #[.int .i64 0, .slice none 0 0] 93 93
  rw [hW]
  clear hW
  replace hR := hR.below hbW
  replace hF := hF.below hbW
  have H0 := hbW
  clear hbW
  have hD := drawn_below W0
  replace hR := hR.below hD
  replace hF := hF.below hD
  replace b1 := b1.below hD
  replace b2 := b2.below hD
  replace H0 := H0.trans (hD.mono H0.size)
  clear hD
  refine wp_region_noPanic ?_
  refine wp_region_held_drew (S := (fun V => V.cell? ⟨w.heap.size, 0, none⟩ = some (.int .i64 o) ∧ V.cell? ⟨w.heap.size, 1, none⟩ = some (.slice A n c))) (by kernel_rfl) ⟨b1.cell 0 _ rfl, b1.cell 1 _ rfl⟩ (fun hHeld => ?_)
  generalize W0.drew = v1 at H0 hHeld hR hF b1 b2 ⊢
  refine wpAnyH_take (i := 0) (v := ?_) rfl (by kernel_rfl) (by kernel_rfl) (by kernel_rfl) (fun _ _ _ h => h) (Or.inl ⟨by rfl, ?_⟩) (by assumption) ?_
  rotate_left
  · (intro w hSw; (try dsimp only at hSw); go_simp; (try with_reducible rfl))
  (try simp only [List.getElem_toArray, List.getElem_cons_zero, Act.put, List.setIfInBounds_toArray, List.set_cons_zero, List.set_cons_succ])
  refine wpAnyH_take (i := 2) (v := ?_) rfl (by kernel_rfl) (by kernel_rfl) (by kernel_rfl) (fun _ _ _ h => h) (Or.inl ⟨by rfl, ?_⟩) (by assumption) ?_
  rotate_left
  · (intro w hSw; (try dsimp only at hSw); go_simp; (try with_reducible rfl))
  (try simp only [List.getElem_toArray, List.getElem_cons_succ, List.getElem_cons_zero, Act.put, List.setIfInBounds_toArray, List.set_cons_zero, List.set_cons_succ])
  refine wpAnyH_take (i := 1) (v := ?_) rfl (by kernel_rfl) (by kernel_rfl) (by kernel_rfl) (fun _ _ _ h => h) (Or.inl ⟨by rfl, ?_⟩) (by assumption) ?_
  rotate_left
  · (intro w hSw; (try dsimp only at hSw); go_simp; (try with_reducible rfl))
  (try simp only [List.getElem_toArray, List.getElem_cons_succ, List.getElem_cons_zero, Act.put, List.setIfInBounds_toArray, List.set_cons_zero, List.set_cons_succ])
  refine wpAnyH_take (i := 3) (v := ?_) rfl (by kernel_rfl) (by kernel_rfl) (by kernel_rfl) (fun _ _ _ h => h) (Or.inl ⟨by rfl, ?_⟩) (by assumption) ?_
  rotate_left
  · (intro w hSw; (try dsimp only at hSw); go_simp; (try with_reducible rfl))
  (try simp only [List.getElem_toArray, List.getElem_cons_succ, List.getElem_cons_zero, Act.put, List.setIfInBounds_toArray, List.set_cons_zero, List.set_cons_succ])
  refine wpAnyH_ready (rs := [4]) (by kernel_rfl) (by simp) (AllReadyH.cons (o := _) rfl (fun K hK => ?_) AllReadyH.nil)
  go_simp
  go_at_call 101
  refine (vals_b A n c _).mono ?_
  rintro e w2 ⟨rfl, bq, hb⟩
  replace hR := hR.below hb
  replace hF := hF.below hb
  replace b1 := b1.below hb
  replace b2 := b2.below hb
  replace H0 := H0.trans (hb.mono H0.size)
  clear hb
  go_wp2_with fail
  refine hK.out _ _ ⟨b1.cell 0 _ rfl, b1.cell 1 _ rfl⟩ (fun hHeld => ?_)
  clear hK K
  (try simp only [List.getElem_toArray, List.getElem_cons_succ, List.getElem_cons_zero, Act.put, List.setIfInBounds_toArray, List.set_cons_zero, List.set_cons_succ])
  refine wpAnyH_ready (rs := [5]) (by kernel_rfl) (by simp) (AllReadyH.cons (o := _) rfl (fun K hK => ?_) AllReadyH.nil)
  go_simp
  go_at_call 100
  refine (sortedf_s (bq.cell 0 _ rfl) hR hF HN.out hL).mono ?_
  rintro e w3 ⟨A', n', c', rfl, hO2, hb⟩
  replace hR := hR.below hb
  replace hF := hF.below hb
  replace bq := bq.below hb
  replace b1 := b1.below hb
  replace b2 := b2.below hb
  replace H0 := H0.trans (hb.mono H0.size)
  clear hb
  clear bq
  clear hR
  clear hF
  go_wp2_with fail
  refine hK.out _ _ ⟨b1.cell 0 _ rfl, b1.cell 1 _ rfl⟩ (fun hHeld => ?_)
  clear hK K
  (try simp only [List.getElem_toArray, List.getElem_cons_succ, List.getElem_cons_zero, Act.put, List.setIfInBounds_toArray, List.set_cons_zero, List.set_cons_succ])
  refine wpAnyH_take (i := 6) (v := ?_) rfl (by kernel_rfl) (by kernel_rfl) (by kernel_rfl) (fun _ _ _ h => h) (Or.inl ⟨by rfl, ?_⟩) (by assumption) ?_
  rotate_left
  · (intro w hSw; (try dsimp only at hSw); go_simp; (try with_reducible rfl))
  (try simp only [List.getElem_toArray, List.getElem_cons_succ, List.getElem_cons_zero, Act.put, List.setIfInBounds_toArray, List.set_cons_zero, List.set_cons_succ])
  have cb20 := b2.cell 0 _ rfl
  have yb20 := b2.frozen 0
  have cb21 := b2.cell 1 _ rfl
  have yb21 := b2.frozen 1
  refine wpAnyH_ready (rs := [7]) (by kernel_rfl) (by simp) (AllReadyH.cons (o := _) rfl (fun K hK => ?_) AllReadyH.nil)
  go_simp
  clear cb20 yb20 cb21 yb21
  have hg := only_store w3 (w.heap.size + 1) (.int .i64 o) (.slice A' n' c')
  have hB := b2.stored (.int .i64 o) (.slice A' n' c')
  generalize hX : ((w3.setCell ⟨w.heap.size + 1, 0, none⟩ (.int .i64 o)).setCell ⟨w.heap.size + 1, 1, none⟩ (.slice A' n' c')) = X4 at hg hB ⊢
  clear hX
  replace hO2 := hO2.kept b2 (by simp [notInt]) hg
  replace b1 := b1.other hg (by omega)
  replace b2 := hB
  replace H0 := below_only H0 hg (by omega) H0.size
  clear hg hB
  refine hK.out _ _ ⟨b1.cell 0 _ rfl, b1.cell 1 _ rfl⟩ (fun hHeld => ?_)
  clear hK K
  (try simp only [List.getElem_toArray, List.getElem_cons_succ, List.getElem_cons_zero, Act.put, List.setIfInBounds_toArray, List.set_cons_zero, List.set_cons_succ])
  refine wpAnyH_done (by kernel_rfl) ?_ _
  refine NoPanic.normal ?_
  go_wp2_with fail
  refine bodyPost_ret (ret_tally rfl rfl b2) rfl ?_
  exact ⟨_, _, rfl, ⟨A', n', c', rfl, ps_ens hO2.1.read hO2.2⟩, (srt_evO ps).1, (srt_evO ps).2, H0⟩
set_option maxRecDepth 100000 in
set_option maxHeartbeats 4000000 in
theorem join_v {v : Value} (hS : SpS w L v l) (hok : OkS l) (hn : l.length ≤ 6) (hL2 : 2 ≤ L) (hL : L ≤ 100000) :
    Calls Tryz.prog 25 #[v] w fun e w' => ∃ y g ts, e = .returned (.tuple #[y, .nilIface]) ∧ SetV w' L y g ts ∧ ts.length ≤ 12 ∧ (∀ x, (∀ e ∈ tEnds l, e.1 ≠ x) → (∀ s ∈ l, offS s x) → evT g ts x = memL l x) ∧ Below w.heap.size w w' := by
  have HO := Lib.hid hok
  have hlt := tEnds_len l
  have hob := tOpen_bd l
  clear hok
  go_enter Tryz.func25, Tryz.ntmps25
  go_wp2_with fail
  refine (vlist_v hS HO.out (by omega) (by omega)).mono ?_
  rintro e w0 ⟨rfl, hb⟩
  replace hS := hS.below hb
  have H0 := hb
  clear hb
  go_wp2_with fail
  refine (tally_v hS (by omega)).mono ?_
  rintro e w1 ⟨y1, rfl, h1, hb⟩
  replace hS := hS.below hb
  replace H0 := H0.trans (hb.mono H0.size)
  clear hb
  clear hS
  go_wp2_with fail
  refine (sorted_v h1 (by omega) (by omega)).mono ?_
  rintro e w2 ⟨y2, m, rfl, h2, hp, ha, hb⟩
  replace h1 := h1.below hb
  replace H0 := H0.trans (hb.mono H0.size)
  clear hb
  clear h1
  have hml : m.length ≤ 12 := by rw [hp.length_eq]; omega
  obtain ⟨k1, k2, k3, k4⟩ := join_sem HO.out hp ha
  have HU := Lib.hid (Unit1.perm (tEnds_unit l) hp)
  have HK := Lib.hid k4
  have HK1 := Lib.hid k1
  clear k1 k2 k4 ha hp
  go_wp2_with fail
  refine (reached_v (lv := 1) h2 (tal_zero _ _) (by omega) (by decide) HU.out (fun e he => by cases he) (by simp; omega) (by show (reachT 1 m.length (tOpen l + 0) m []).length ≤ 20000; omega) hL2 hL).mono ?_
  rintro e w3 ⟨v3, css, rfl, hO3, hA3, hb⟩
  replace h2 := h2.below hb
  replace H0 := H0.trans (hb.mono H0.size)
  clear hb
  clear h2
  go_wp2_with fail
  go_returns
  exact ⟨_, _, _, rfl, ⟨⟨css, hO3.read, hA3⟩, HK1.out⟩, by show (reachT 1 m.length (tOpen l + 0) m []).length ≤ 12; omega, HK.out, H0⟩
end
end Go.Proofs.YtpgkkkodniiilaaGreatDoor
