/-
  Plain numbers: a round of long division.
-/
import Derived.Test.YtkhfadfjkmhpgaaDoorMath
namespace Go.Proofs.YtkhfadfjkmhpgaaDoor

/-- What lies above the part is 0, and the part is less than base times divisor. -/
theorem round_part {zs : List Nat} {j n D : Nat} (hlen : j + n + 1 ≤ zs.length) (hD : D < Bs n) (hR : val zs < Bs (j + 1) * D) :
    val (zs.drop (j + n + 1)) = 0 ∧ val zs = val (zs.take j) + Bs j * val ((zs.drop j).take (n + 1)) ∧ val ((zs.drop j).take (n + 1)) < 4294967296 * D := by
  have h1 := val_take_drop zs (j + n + 1) hlen
  have h2 : Bs (j + 1) * D ≤ Bs (j + n + 1) := by
    rw [show j + n + 1 = (j + 1) + n by omega, Bs_add (j + 1) n]; exact Nat.mul_le_mul_left _ (by omega)
  have h3 : val (zs.drop (j + n + 1)) = 0 := by
    rcases Nat.eq_zero_or_pos (val (zs.drop (j + n + 1))) with h | h
    · exact h
    · have := Nat.mul_le_mul_left (Bs (j + n + 1)) h
      omega
  have h4 := val_take_drop zs j (by omega)
  have h5 := val_take_drop (zs.drop j) (n + 1) (by rw [List.length_drop]; omega)
  rw [List.drop_drop, show j + (n + 1) = j + n + 1 by omega, h3, Nat.mul_zero, Nat.add_zero] at h5
  rw [h5] at h4
  refine ⟨h3, h4, ?_⟩
  have h6 : Bs j * val ((zs.drop j).take (n + 1)) < Bs j * (4294967296 * D) := by
    have : Bs j * (4294967296 * D) = Bs (j + 1) * D := by rw [Bs_succ]; grind
    omega
  exact Nat.lt_of_mul_lt_mul_left h6

theorem take_split {zs : List Nat} {j n : Nat} (hlen : j + n ≤ zs.length) : val (zs.take (j + n)) = val (zs.take j) + Bs j * val ((zs.drop j).take n) := by
  have h := val_take_drop (zs.take (j + n)) j (by rw [List.length_take]; omega)
  rw [List.take_take, Nat.min_eq_left (by omega), List.drop_take, show j + n - j = n by omega] at h
  exact h
theorem cancel_round {T b p x y z : Nat} (hb : 0 < b) (h : T + b * p + b * x = T + b * y + b * z) : p + x = y + z := by
  have : b * (p + x) = b * (y + z) := by rw [Nat.mul_add, Nat.mul_add]; omega
  exact Nat.eq_of_mul_eq_mul_left hb this

/-- The estimate was right: nothing is to be taken back. -/
theorem round_right {P D q P' : Nat} (hle : P / D ≤ q) (hD : 0 < D) (h : P' + q * D = P) : q = P / D ∧ P' = P % D := by
  have h1 : q ≤ P / D := (Nat.le_div_iff_mul_le hD).2 (by omega)
  have h2 : q = P / D := by omega
  refine ⟨h2, ?_⟩
  have h3 := Nat.div_add_mod P D
  rw [← h2, Nat.mul_comm] at h3
  omega
/-- The estimate was too great by 1. -/
theorem round_wrong {P D q P' bn : Nat} (hle : q ≤ P / D + 1) (hP' : P' < 4294967296 * bn) (h : P' + q * D = P + 4294967296 * bn) : q = P / D + 1 ∧ P' + D = P % D + 4294967296 * bn := by
  have h1 : ¬ q ≤ P / D := fun hq => by
    have := Nat.mul_le_mul_right D hq
    have h3 := Nat.div_mul_le_self P D
    omega
  have h2 : q = P / D + 1 := by omega
  refine ⟨h2, ?_⟩
  have h3 := Nat.div_add_mod P D
  rw [h2, Nat.add_mul, Nat.one_mul, Nat.mul_comm] at h
  omega
/-- Adding the divisor back: the carry is 1, the highest digit becomes 0. -/
theorem round_back {low low2 pn carry bn r D : Nat} (hlow : low < bn) (hlow2 : low2 < bn) (hpn : pn < 4294967296) (hr : r < D) (hD : D < bn) (h1 : low2 + bn * carry = low + D) (h2 : low + bn * pn + D = r + 4294967296 * bn) : carry = 1 ∧ pn = 4294967295 ∧ low2 = r := by
  have e1 : low2 + bn * (carry + pn) = r + bn * 4294967296 := by rw [Nat.mul_add]; omega
  have e2 : (low2 + bn * (carry + pn)) % bn = low2 := by rw [Nat.add_mul_mod_self_left, Nat.mod_eq_of_lt hlow2]
  have e3 : (r + bn * 4294967296) % bn = r := by rw [Nat.add_mul_mod_self_left, Nat.mod_eq_of_lt (by omega)]
  have e4 : low2 = r := by rw [← e2, e1, e3]
  rw [e4] at e1
  have e5 : bn * (carry + pn) = bn * 4294967296 := by omega
  have e6 := Nat.eq_of_mul_eq_mul_left (by omega) e5
  have e7 : carry < 2 := by
    rcases Nat.lt_or_ge carry 2 with h | h
    · exact h
    · have := Nat.mul_le_mul_left bn h
      omega
  exact ⟨by omega, by omega, e4⟩
theorem round_inv {X bj D V R T P : Nat} (hX : X = 4294967296 * bj * (D * V) + R) (hR : R = T + bj * P) : X = bj * (D * (P / D + 4294967296 * V)) + (T + bj * (P % D)) := by
  have h := Nat.div_add_mod P D
  rw [hX, hR]
  conv => lhs; rw [← h]
  grind
theorem round_small {bj T r D : Nat} (hT : T < bj) (hr : r < D) : T + bj * r < bj * D := by
  have := Nat.mul_le_mul_left bj (show r + 1 ≤ D from hr)
  rw [Nat.mul_add] at this
  omega
theorem shifted_bounds {y s m t : Nat} (ht : t * Bs (m + 1) ≤ y) (ht2 : y < (t + 1) * Bs (m + 1)) (h1 : 2147483648 ≤ t * 2 ^ s) (h2 : (t + 1) * 2 ^ s ≤ 4294967296) : Bs (m + 1) * 2147483648 ≤ y * 2 ^ s ∧ y * 2 ^ s < Bs (m + 2) := by
  have a1 : t * Bs (m + 1) * 2 ^ s ≤ y * 2 ^ s := Nat.mul_le_mul_right _ ht
  have a2 : Bs (m + 1) * 2147483648 ≤ Bs (m + 1) * (t * 2 ^ s) := Nat.mul_le_mul_left _ h1
  have a3 : Bs (m + 1) * (t * 2 ^ s) = t * Bs (m + 1) * 2 ^ s := by grind
  have b1 : y * 2 ^ s < (t + 1) * Bs (m + 1) * 2 ^ s := Nat.mul_lt_mul_of_pos_right ht2 (Nat.pow_pos (by omega))
  have b2 : Bs (m + 1) * ((t + 1) * 2 ^ s) ≤ Bs (m + 1) * 4294967296 := Nat.mul_le_mul_left _ h2
  have b3 : Bs (m + 1) * ((t + 1) * 2 ^ s) = (t + 1) * Bs (m + 1) * 2 ^ s := by grind
  have b4 : Bs (m + 2) = 4294967296 * Bs (m + 1) := Bs_succ (m + 1)
  omega
/-- The first rest is small enough. -/
theorem start_small {x s m r D : Nat} (hx : x < Bs (m + 2 + r)) (hs : 2 ^ s ≤ 2147483648) (hD : Bs (m + 1) * 2147483648 ≤ D) : x * 2 ^ s < Bs (r + 1) * D := by
  have a1 : x * 2 ^ s < Bs (m + 2 + r) * 2 ^ s := Nat.mul_lt_mul_of_pos_right hx (Nat.pow_pos (by omega))
  have a2 : Bs (m + 2 + r) * 2 ^ s ≤ Bs (m + 2 + r) * 2147483648 := Nat.mul_le_mul_left _ hs
  have a3 : Bs (r + 1) * (Bs (m + 1) * 2147483648) ≤ Bs (r + 1) * D := Nat.mul_le_mul_left _ hD
  have a4 : Bs (m + 2 + r) = Bs (r + 1) * Bs (m + 1) := by rw [← Bs_add]; congr 1; omega
  have a5 : Bs (m + 2 + r) * 2147483648 = Bs (r + 1) * (Bs (m + 1) * 2147483648) := by rw [a4, Nat.mul_assoc]
  omega
theorem final_div {x y P V R : Nat} (hP : 0 < P) (hX : x * P = y * P * V + R) (hR : R < y * P) : V = x / y ∧ R / P = x % y := by
  have hy : 0 < y := by
    rcases Nat.eq_zero_or_pos y with h | h
    · subst h; omega
    · exact h
  have h1 : R = P * (R / P) := by
    have h2 := Nat.div_add_mod R P
    have h3 : R % P = 0 := by
      have h4 : (x * P) % P = (y * P * V + R) % P := by rw [hX]
      rw [Nat.mul_mod_left, show y * P * V = P * (y * V) by grind, Nat.mul_add_mod] at h4
      exact h4.symm
    omega
  generalize R / P = r at *
  subst h1
  have h5 : x = y * V + r := by
    have : P * x = P * (y * V + r) := by grind
    exact Nat.eq_of_mul_eq_mul_left hP this
  have h6 : r < y := by
    have : P * r < P * y := by grind
    exact Nat.lt_of_mul_lt_mul_left this
  subst h5
  exact ⟨by rw [Nat.mul_add_div hy, Nat.div_eq_of_lt h6]; omega, by rw [Nat.mul_add_mod, Nat.mod_eq_of_lt h6]⟩
theorem set_drop {qs : List Nat} {j v : Nat} (h : j < qs.length) : (qs.set j v).drop j = v :: qs.drop (j + 1) := by
  rw [List.drop_eq_getElem_cons (by rw [List.length_set]; exact h), List.getElem_set_self, List.drop_set_of_lt (by omega)]
/-- What a round hands on. -/
theorem round_done {X D P T R j : Nat} {qs qf : List Nat} (hX : X = Bs (j + 1) * (D * val (qs.drop (j + 1))) + R) (hR : R = T + Bs j * P) (hT : T < Bs j) (hD : 0 < D) (hq : qf.drop j = (P / D) :: qs.drop (j + 1)) :
    X = Bs j * (D * val (qf.drop j)) + (T + Bs j * (P % D)) ∧ T + Bs j * (P % D) < Bs j * D := by
  rw [hq, val_cons]
  rw [Bs_succ] at hX
  exact ⟨round_inv hX hR, round_small hT (Nat.mod_lt _ hD)⟩
/-- What the subtraction says of the part. -/
theorem part_eq {zs zs' : List Nat} {j n q D nb P : Nat} (h1 : j + n + 1 ≤ zs.length) (h2 : j + n + 1 ≤ zs'.length) (ht : zs'.take j = zs.take j) (hP : val ((zs.drop j).take (n + 1)) = P)
    (h : val (zs'.take (j + n + 1)) + Bs j * (q * D) = val (zs.take (j + n + 1)) + Bs (j + n + 1) * nb) : val ((zs'.drop j).take (n + 1)) + q * D = P + 4294967296 * Bs n * nb := by
  have e1 := take_split (zs := zs) (j := j) (n := n + 1) (by omega)
  have e2 := take_split (zs := zs') (j := j) (n := n + 1) (by omega)
  rw [show j + (n + 1) = j + n + 1 by omega] at e1 e2
  rw [e1, e2, ht, hP, show j + n + 1 = j + (n + 1) by omega, Bs_add j (n + 1), Bs_succ] at h
  refine cancel_round (b := Bs j) (T := val (zs.take j)) (y := P) (Bs_pos j) ?_
  have : Bs j * (4294967296 * Bs n) * nb = Bs j * (4294967296 * Bs n * nb) := by grind
  omega
theorem whole_eq {zs' : List Nat} {j n : Nat} (h2 : j + n + 1 ≤ zs'.length) (hup : val (zs'.drop (j + n + 1)) = 0) : val zs' = val (zs'.take j) + Bs j * val ((zs'.drop j).take (n + 1)) := by
  have h := val_take_drop zs' (j + n + 1) h2
  rw [hup, Nat.mul_zero, Nat.add_zero] at h
  rw [h, show j + n + 1 = j + (n + 1) by omega]
  exact take_split (by omega)
/-- What adding the divisor back says of the part. -/
theorem back_eq {zs' zs2 : List Nat} {j n D carry P' r : Nat} (hd : OkD zs') (hd2 : OkD zs2) (h1 : j + n + 1 ≤ zs'.length) (h2 : zs2.length = zs'.length) (ht : zs2.take j = zs'.take j) (hP' : val ((zs'.drop j).take (n + 1)) = P')
    (h : val (zs2.take (j + n)) + Bs (j + n) * carry = val (zs'.take (j + n)) + Bs j * (1 * D)) (hr : r < D) (hD : D < Bs n) (hw : P' + D = r + 4294967296 * Bs n) :
    carry = 1 ∧ zs'.getD (j + n) 0 = 4294967295 ∧ val (zs2.take (j + n)) = val (zs2.take j) + Bs j * r := by
  have e1 := take_split (zs := zs') (j := j) (n := n) (by omega)
  have e2 := take_split (zs := zs2) (j := j) (n := n) (by omega)
  have e3 := val_take_succ (zs'.drop j) n (by rw [List.length_drop]; omega)
  rw [hP'] at e3
  have e4 : (zs'.drop j).getD n 0 = zs'.getD (j + n) 0 := by rw [List.getD_eq_getElem?_getD, List.getD_eq_getElem?_getD, List.getElem?_drop]
  rw [e4] at e3
  have hlow := val_take_lt (okD_drop hd j) n
  have hlow2 := val_take_lt (okD_drop hd2 j) n
  have hpn := okD_getD hd (j + n)
  rw [e1, e2, ht, Nat.one_mul, Bs_add] at h
  generalize val ((zs'.drop j).take n) = low at *
  generalize hg : val ((zs2.drop j).take n) = low2 at *
  generalize zs'.getD (j + n) 0 = pn at *
  have h5 : low2 + Bs n * carry = low + D := by
    refine cancel_round (b := Bs j) (T := val (zs'.take j)) (Bs_pos j) ?_
    have : Bs j * Bs n * carry = Bs j * (Bs n * carry) := Nat.mul_assoc _ _ _
    omega
  obtain ⟨f1, f2, f3⟩ := round_back hlow hlow2 hpn hr hD h5 (by omega)
  exact ⟨f1, f2, by rw [e2, f3]⟩
end Go.Proofs.YtkhfadfjkmhpgaaDoor
