/-
  The mathematics of the reference's Combine: membership in lists of spans, gaps between numbers, the set that marks of gaps make.
-/
import Derived.Test.YtpgkkkodniiilaaGreatDoorWSpY
namespace Go.Proofs.YtpgkkkodniiilaaGreatDoor
theorem rsg_pos_iff (q : Rat) : 0 < rsg q ↔ 0 < q := by
  rcases (show q < 0 ∨ q = 0 ∨ 0 < q by grind) with h | h | h
  · rw [rsg_neg' h]; constructor <;> intro h2
    · omega
    · grind
  · subst h; constructor
    · intro h2; exact absurd h2 (by decide)
    · intro h2; grind
  · rw [rsg_pos h]; constructor <;> intro _
    · exact h
    · decide
theorem rsg_neg_iff (q : Rat) : rsg q < 0 ↔ q < 0 := by
  rcases (show q < 0 ∨ q = 0 ∨ 0 < q by grind) with h | h | h
  · rw [rsg_neg' h]; constructor <;> intro _
    · exact h
    · decide
  · subst h; constructor
    · intro h2; exact absurd h2 (by decide)
    · intro h2; grind
  · rw [rsg_pos h]; constructor <;> intro h2
    · omega
    · grind
/-- Whether x is between the ends of a span. -/
def memS (s : Sp) (x : Rat) : Bool := (match s.lo with | none => true | some a => decide (a < x)) && (match s.hi with | none => true | some b => decide (x < b))
/-- Whether x is between the ends of one of the spans. -/
def memL (l : List Sp) (x : Rat) : Bool := l.any fun s => memS s x
/-- x is no end of the span. -/
def offS (s : Sp) (x : Rat) : Prop := s.lo ≠ some x ∧ s.hi ≠ some x
theorem cls_off {s : Sp} {x : Rat} (h : offS s x) : clsS s x = if memS s x then some 2 else none := by
  obtain ⟨h1, h2⟩ := h
  have key : ∀ a b : Rat, ¬ a = x → ¬ b = x → True := fun _ _ _ _ => trivial
  unfold clsS memS loS hiS
  cases hl : s.lo with
  | none =>
    cases hh : s.hi with
    | none => simp
    | some b =>
      have hb : b ≠ x := fun e => h2 (by rw [hh, e])
      have e1 := rsg_neg_iff (x - b)
      have e2 := @rsg_zero_iff (x - b)
      by_cases hx : x < b
      · have : rsg (x - b) < 0 := e1.2 (by grind)
        simp [this, hx]
      · have h3 : ¬ rsg (x - b) < 0 := fun h => hx (by have := e1.1 h; grind)
        have h4 : ¬ rsg (x - b) = 0 := fun h => hb (by have := e2.1 h; grind)
        simp [h3, h4, hx]
  | some a =>
    have ha : a ≠ x := fun e => h1 (by rw [hl, e])
    have p1 := rsg_pos_iff (x - a)
    have p2 := @rsg_zero_iff (x - a)
    have p3 : ¬ rsg (x - a) = 0 := fun h => ha (by have := p2.1 h; grind)
    cases hh : s.hi with
    | none =>
      by_cases hx : a < x
      · have : 0 < rsg (x - a) := p1.2 (by grind)
        simp [this, hx]
      · have h3 : ¬ 0 < rsg (x - a) := fun h => hx (by have := p1.1 h; grind)
        simp [h3, p3, hx]
    | some b =>
      have hb : b ≠ x := fun e => h2 (by rw [hh, e])
      have e1 := rsg_neg_iff (x - b)
      have e2 := @rsg_zero_iff (x - b)
      have h4 : ¬ rsg (x - b) = 0 := fun h => hb (by have := e2.1 h; grind)
      by_cases hx : a < x
      · have q1 : 0 < rsg (x - a) := p1.2 (by grind)
        by_cases hy : x < b
        · have : rsg (x - b) < 0 := e1.2 (by grind)
          simp [this, q1, hx, hy]
        · have h3 : ¬ rsg (x - b) < 0 := fun h => hy (by have := e1.1 h; grind)
          simp [h3, h4, p3, hx, hy]
      · have h3 : ¬ 0 < rsg (x - a) := fun h => hx (by have := p1.1 h; grind)
        simp [h3, h4, p3, hx]
theorem clsL_off {l : List Sp} {x : Rat} (h : ∀ s ∈ l, offS s x) : clsL l x = if memL l x then 2 else 0 := by
  induction l with
  | nil => rfl
  | cons s l ih =>
    unfold clsL
    rw [cls_off (h s (List.mem_cons_self ..)), ih fun t ht => h t (List.mem_cons_of_mem _ ht)]
    unfold memL
    rw [List.any_cons]
    cases memS s x <;> simp
theorem clsL_in {l : List Sp} {x : Rat} (h : ∀ s ∈ l, offS s x) : ((clsL l x : Int) == 2) = memL l x := by
  rw [clsL_off h]
  cases memL l x <;> rfl
/-- The same side of all ends. -/
def Alike (cs : List Rat) (x y : Rat) : Prop := ∀ c ∈ cs, (c < x ↔ c < y) ∧ (x < c ↔ y < c)
theorem mem_alike {l : List Sp} {cs : List Rat} {x y : Rat} (hc : ∀ s ∈ l, (∀ a, s.lo = some a → a ∈ cs) ∧ ∀ b, s.hi = some b → b ∈ cs) (h : Alike cs x y) : memL l x = memL l y := by
  unfold memL
  induction l with
  | nil => rfl
  | cons s l ih =>
    rw [List.any_cons, List.any_cons, ih fun t ht => hc t (List.mem_cons_of_mem _ ht)]
    congr 1
    have hs := hc s (List.mem_cons_self ..)
    unfold memS
    cases hl : s.lo with
    | none =>
      cases hh : s.hi with
      | none => rfl
      | some b => simp [(h b (hs.2 b hh)).2]
    | some a =>
      cases hh : s.hi with
      | none => simp [(h a (hs.1 a hl)).1]
      | some b => simp [(h b (hs.2 b hh)).2, (h a (hs.1 a hl)).1]
/-- Numbers in the gaps above a number, below and between ascending numbers. -/
def midsT : Rat → List Rat → List Rat
  | c, [] => [c + 1]
  | c, d :: ds => (c + d) / 2 :: midsT d ds
def probesT : List Rat → List Rat
  | [] => [0]
  | c :: cs => (c - 1) :: midsT c cs
/-- Where marks of gaps change: the first gap's mark, the numbers, the marks of the other gaps. -/
def flips : Bool → List Rat → List Bool → List Rat
  | m, c :: cs, m' :: ms => if m = m' then flips m' cs ms else c :: flips m' cs ms
  | _, _, _ => []
theorem flips_sub {m : Bool} {cs : List Rat} : ∀ {ms t}, t ∈ flips m cs ms → t ∈ cs := by
  induction cs generalizing m with
  | nil => intro ms t h; cases h
  | cons c cs ih =>
    intro ms t h
    cases ms with
    | nil => cases h
    | cons m' ms =>
      unfold flips at h
      split at h
      · exact List.mem_cons_of_mem _ (ih h)
      · rcases List.mem_cons.1 h with rfl | h
        · exact List.mem_cons_self ..
        · exact List.mem_cons_of_mem _ (ih h)
theorem flips_asc {m : Bool} {cs : List Rat} (h : Asc cs) : ∀ {ms}, Asc (flips m cs ms) := by
  induction cs generalizing m with
  | nil => intro ms; trivial
  | cons c cs ih =>
    intro ms
    cases ms with
    | nil => trivial
    | cons m' ms =>
      unfold flips
      split
      · exact ih h.2
      · exact ⟨fun u hu => h.1 u (flips_sub hu), ih h.2⟩
theorem flips_len {m : Bool} {cs : List Rat} : ∀ {ms}, (flips m cs ms).length ≤ cs.length := by
  induction cs generalizing m with
  | nil => intro ms; exact Nat.zero_le _
  | cons c cs ih =>
    intro ms
    cases ms with
    | nil => exact Nat.zero_le _
    | cons m' ms =>
      unfold flips
      split
      · have := @ih m' ms; simp; omega
      · have := @ih m' ms; simp; omega
theorem mids_cons (c : Rat) (cs : List Rat) : ∃ p ps, midsT c cs = p :: ps ∧ ps.length = cs.length := by
  induction cs generalizing c with
  | nil => exact ⟨_, _, rfl, rfl⟩
  | cons d ds ih => obtain ⟨p, ps, h, hl⟩ := ih d; exact ⟨_, _, rfl, by rw [h]; simp [hl]⟩
theorem mids_sem (G : Rat → Bool) (cs : List Rat) : ∀ (c p : Rat) (ps : List Rat), midsT c cs = p :: ps → Asc cs → (∀ u ∈ cs, c < u) → (∀ x y, c < x → c < y → Alike cs x y → G x = G y) → ∀ x, c < x → x ∉ cs → evT (G p) (flips (G p) cs (ps.map G)) x = G x := by
  induction cs with
  | nil =>
    intro c p ps hp _ _ hG x hx _
    injection hp with hp _
    subst hp
    exact hG _ _ (by grind) hx fun u hu => (by cases hu)
  | cons d ds ih =>
    intro c p ps hp ha hb hG x hx hn
    have hcd := hb d (List.mem_cons_self ..)
    obtain ⟨p', ps', hp', _⟩ := mids_cons d ds
    have hp2 : (c + d) / 2 :: midsT d ds = p :: ps := hp
    injection hp2 with e1 e2
    rw [hp'] at e2
    subst e1 e2
    have hm := mid_lt hcd
    have I := ih d p' ps' hp' ha.2 ha.1 (fun x y h1 h2 h3 => hG x y (by grind) (by grind) fun u hu => by
      rcases List.mem_cons.1 hu with rfl | hu
      · constructor <;> constructor <;> intro h <;> grind
      · exact h3 u hu)
    show evT (G ((c + d) / 2)) (if G ((c + d) / 2) = G p' then flips (G p') ds (ps'.map G) else d :: flips (G p') ds (ps'.map G)) x = G x
    have hxd : x ≠ d := fun e => hn (by rw [e]; exact List.mem_cons_self ..)
    have hxn : x ∉ ds := fun h => hn (List.mem_cons_of_mem _ h)
    have below : x < d → G ((c + d) / 2) = G x := fun h => hG _ _ hm.1 hx fun u hu => by
      have hu2 : d ≤ u := by
        rcases List.mem_cons.1 hu with rfl | hu
        · grind
        · have := ha.1 u hu; grind
      constructor <;> constructor <;> intro h9 <;> grind
    have lowF : ∀ t ∈ flips (G p') ds (ps'.map G), d < t := fun t ht => ha.1 t (flips_sub ht)
    by_cases hlt : x < d
    · rw [← below hlt]
      split
      · exact evT_low fun t ht => by have := lowF t ht; grind
      · unfold evT; rw [if_neg (by grind)]
    · have hdx : d < x := by grind
      have hI := I x hdx hxn
      split
      · next h => rw [h]; exact hI
      · next h =>
        unfold evT
        rw [if_pos hdx, ← hI]
        congr 1
        revert h
        cases G ((c + d) / 2) <;> cases G p' <;> simp
theorem probes_cons (cs : List Rat) : ∃ p ps, probesT cs = p :: ps ∧ ps.length = cs.length := by
  cases cs with
  | nil => exact ⟨_, _, rfl, rfl⟩
  | cons c cs => obtain ⟨p, ps, h, hl⟩ := mids_cons c cs; exact ⟨_, _, rfl, by rw [h]; simp [hl]⟩
theorem probes_len (cs : List Rat) : (probesT cs).length = cs.length + 1 := by
  obtain ⟨p, ps, h, hl⟩ := probes_cons cs; rw [h]; simp [hl]
/-- The marks of the probes make the set of what they mark. -/
theorem probes_sem (G : Rat → Bool) {cs : List Rat} {p : Rat} {ps : List Rat} (hp : probesT cs = p :: ps) (ha : Asc cs) (hG : ∀ x y, Alike cs x y → G x = G y) : ∀ x, x ∉ cs → evT (G p) (flips (G p) cs (ps.map G)) x = G x := by
  intro x hx
  cases cs with
  | nil =>
    injection hp with hp _
    subst hp
    exact hG _ _ fun u hu => (by cases hu)
  | cons d ds =>
    obtain ⟨p', ps', hp', _⟩ := mids_cons d ds
    have hp2 : (d - 1) :: midsT d ds = p :: ps := hp
    injection hp2 with e1 e2
    rw [hp'] at e2
    subst e1 e2
    have I := mids_sem G ds d p' ps' hp' ha.2 ha.1 (fun x y h1 h2 h3 => hG x y fun u hu => by
      rcases List.mem_cons.1 hu with rfl | hu
      · constructor <;> constructor <;> intro h <;> grind
      · exact h3 u hu)
    show evT (G (d - 1)) (if G (d - 1) = G p' then flips (G p') ds (ps'.map G) else d :: flips (G p') ds (ps'.map G)) x = G x
    have hxd : x ≠ d := fun e => hx (by rw [e]; exact List.mem_cons_self ..)
    have hxn : x ∉ ds := fun h => hx (List.mem_cons_of_mem _ h)
    have below : x < d → G (d - 1) = G x := fun h => hG _ _ fun u hu => by
      have hu2 : d ≤ u := by
        rcases List.mem_cons.1 hu with rfl | hu
        · grind
        · have := ha.1 u hu; grind
      constructor <;> constructor <;> intro h9 <;> grind
    have lowF : ∀ t ∈ flips (G p') ds (ps'.map G), d < t := fun t ht => ha.1 t (flips_sub ht)
    by_cases hlt : x < d
    · rw [← below hlt]
      split
      · exact evT_low fun t ht => by have := lowF t ht; grind
      · unfold evT; rw [if_neg (by grind)]
    · have hdx : d < x := by grind
      have hI := I x hdx hxn
      split
      · next h => rw [h]; exact hI
      · next h =>
        unfold evT
        rw [if_pos hdx, ← hI]
        congr 1
        revert h
        cases G (d - 1) <;> cases G p' <;> simp
theorem mids_off {cs : List Rat} : ∀ {c : Rat}, Asc cs → (∀ u ∈ cs, c < u) → ∀ p ∈ midsT c cs, c < p ∧ p ∉ cs := by
  induction cs with
  | nil => intro c _ _ p hp; have := List.mem_singleton.1 hp; subst this; exact ⟨by grind, fun h => (by cases h)⟩
  | cons d ds ih =>
    intro c ha hb p hp
    have hcd := hb d (List.mem_cons_self ..)
    have hm := mid_lt hcd
    rcases List.mem_cons.1 (show p ∈ (c + d) / 2 :: midsT d ds from hp) with rfl | hp
    · refine ⟨hm.1, fun h => ?_⟩
      rcases List.mem_cons.1 h with e | h
      · grind
      · have := ha.1 _ h; grind
    · obtain ⟨h1, h2⟩ := ih ha.2 ha.1 p hp
      refine ⟨by grind, fun h => ?_⟩
      rcases List.mem_cons.1 h with e | h
      · grind
      · exact h2 h
theorem probes_off {cs : List Rat} (ha : Asc cs) : ∀ p ∈ probesT cs, p ∉ cs := by
  cases cs with
  | nil => intro p _ h; cases h
  | cons d ds =>
    intro p hp
    rcases List.mem_cons.1 (show p ∈ (d - 1) :: midsT d ds from hp) with rfl | hp
    · intro h
      rcases List.mem_cons.1 h with e | h
      · grind
      · have := ha.1 _ h; grind
    · obtain ⟨h1, h2⟩ := mids_off ha.2 ha.1 p hp
      intro h
      rcases List.mem_cons.1 h with e | h
      · grind
      · exact h2 h
/-- The reference's From: what is out, the mark before, the number before, the numbers and marks to come. -/
def fromG : List Sp → Bool → Option Rat → List Rat → List Bool → List Sp
  | out, _, _, _, [] => out
  | out, _, _, cs, false :: ms => fromG out false cs.head? cs.tail ms
  | out, false, lo, cs, true :: ms => fromG (out ++ [⟨lo, cs.head?⟩]) true cs.head? cs.tail ms
  | out, true, _, cs, true :: ms => fromG (out.dropLast ++ [⟨(out.getLast?.bind (·.lo)), cs.head?⟩]) true cs.head? cs.tail ms
theorem from_sem (ms : List Bool) : ∀ (cs : List Rat) (out : List Sp) (m : Bool), cs.length = ms.length →
    (∀ lo, fromG out false lo cs (m :: ms) = out ++ mkS (if m then some lo else none) (flips m cs ms)) ∧
    (∀ a lo, fromG (out ++ [⟨a, lo⟩]) true lo cs (m :: ms) = out ++ (if m then mkS (some a) (flips m cs ms) else ⟨a, lo⟩ :: mkS none (flips m cs ms))) := by
  induction ms with
  | nil =>
    intro cs out m hl
    obtain rfl := List.eq_nil_of_length_eq_zero hl
    cases m
    · exact ⟨fun lo => by simp [fromG, flips, mkS], fun a lo => by simp [fromG, flips, mkS]⟩
    · exact ⟨fun lo => by simp [fromG, flips, mkS], fun a lo => by simp [fromG, flips, mkS]⟩
  | cons m' ms ih =>
    intro cs out m hl
    cases cs with
    | nil => cases hl
    | cons c cs =>
      have hl' : cs.length = ms.length := by simpa using hl
      cases m
      · refine ⟨fun lo => ?_, fun a lo => ?_⟩
        · show fromG out false (some c) cs (m' :: ms) = _
          rw [(ih cs out m' hl').1]
          cases m' <;> simp [flips, mkS]
        · show fromG (out ++ [⟨a, lo⟩]) false (some c) cs (m' :: ms) = _
          rw [(ih cs _ m' hl').1]
          cases m' <;> simp [flips, mkS]
      · refine ⟨fun lo => ?_, fun a lo => ?_⟩
        · show fromG (out ++ [⟨lo, some c⟩]) true (some c) cs (m' :: ms) = _
          rw [(ih cs out m' hl').2]
          cases m' <;> simp [flips, mkS]
        · show fromG ((out ++ [(⟨a, lo⟩ : Sp)]).dropLast ++ [⟨((out ++ [(⟨a, lo⟩ : Sp)]).getLast?.bind (·.lo)), some c⟩]) true (some c) cs (m' :: ms) = _
          rw [List.dropLast_concat, List.getLast?_concat]
          show fromG (out ++ [⟨a, some c⟩]) true (some c) cs (m' :: ms) = _
          rw [(ih cs out m' hl').2]
          cases m' <;> simp [flips, mkS]
theorem from_set {cs : List Rat} {m : Bool} {ms : List Bool} (hl : cs.length = ms.length) : fromG [] false none cs (m :: ms) = spansOf m (flips m cs ms) := by
  rw [(from_sem ms cs [] m hl).1]; cases m <;> rfl
/-- Ascending numbers with one more in its place. -/
def insT (x : Rat) : List Rat → List Rat
  | [] => [x]
  | c :: cs => if c < x then c :: insT x cs else if c = x then c :: cs else x :: c :: cs
theorem insT_mem {x : Rat} {cs : List Rat} : ∀ {t}, t ∈ insT x cs ↔ t = x ∨ t ∈ cs := by
  induction cs with
  | nil => intro t; simp [insT]
  | cons c cs ih =>
    intro t
    unfold insT
    split
    · rw [List.mem_cons, ih, List.mem_cons]; constructor
      · rintro (h | h | h)
        · exact .inr (.inl h)
        · exact .inl h
        · exact .inr (.inr h)
      · rintro (h | h | h)
        · exact .inr (.inl h)
        · exact .inl h
        · exact .inr (.inr h)
    · split
      · next h => subst h; constructor
                  · exact fun h => .inr h
                  · rintro (rfl | h)
                    · exact List.mem_cons_self ..
                    · exact h
      · simp
theorem insT_asc {x : Rat} {cs : List Rat} (h : Asc cs) : Asc (insT x cs) := by
  induction cs with
  | nil => exact ⟨fun u hu => (by cases hu), trivial⟩
  | cons c cs ih =>
    unfold insT
    split
    · next hc =>
      refine ⟨fun u hu => ?_, ih h.2⟩
      rcases insT_mem.1 hu with rfl | hu
      · exact hc
      · exact h.1 u hu
    · split
      · exact h
      · next h1 h2 =>
        refine ⟨fun u hu => ?_, h⟩
        rcases List.mem_cons.1 hu with rfl | hu
        · grind
        · have := h.1 u hu; grind
theorem insT_len (x : Rat) (cs : List Rat) : (insT x cs).length ≤ cs.length + 1 := by
  induction cs with
  | nil => exact Nat.le_refl _
  | cons c cs ih =>
    unfold insT
    split
    · simp; omega
    · split <;> simp
/-- Where it goes: behind those that are less. -/
theorem insT_at {x : Rat} {cs : List Rat} {k : Nat} (hk : k ≤ cs.length) (hb : ∀ j c, j < k → cs[j]? = some c → c < x) (ha : ∀ c, cs[k]? = some c → ¬ c < x) : insT x cs = if cs[k]? = some x then cs else cs.take k ++ x :: cs.drop k := by
  induction cs generalizing k with
  | nil => obtain rfl : k = 0 := by simpa using hk
           simp [insT]
  | cons c cs ih =>
    cases k with
    | zero =>
      have := ha c rfl
      unfold insT
      rw [if_neg this]
      by_cases e : c = x
      · simp [e]
      · simp [e]
    | succ k =>
      have hc := hb 0 c (by omega) rfl
      unfold insT
      rw [if_pos hc, ih (k := k) (by simpa using hk) (fun j d hj hd => hb (j + 1) d (by omega) hd) (fun d hd => ha d hd)]
      simp only [List.getElem?_cons_succ, List.take_succ_cons, List.drop_succ_cons]
      split <;> rfl
/-- All ends of spans, ascending. -/
def endsT (cs : List Rat) : List Sp → List Rat
  | [] => cs
  | s :: l => endsT (match s.hi with | none => (match s.lo with | none => cs | some a => insT a cs) | some b => insT b (match s.lo with | none => cs | some a => insT a cs)) l
theorem endsT_spec (l : List Sp) : ∀ cs, Asc cs → Asc (endsT cs l) ∧ (∀ t ∈ cs, t ∈ endsT cs l) ∧ (∀ s ∈ l, (∀ a, s.lo = some a → a ∈ endsT cs l) ∧ ∀ b, s.hi = some b → b ∈ endsT cs l) ∧ (endsT cs l).length ≤ cs.length + 2 * l.length ∧ ∀ t ∈ endsT cs l, t ∈ cs ∨ ∃ s ∈ l, s.lo = some t ∨ s.hi = some t := by
  induction l with
  | nil => exact fun cs h => ⟨h, fun t ht => ht, fun s hs => (by cases hs), by simp [endsT], fun t ht => .inl ht⟩
  | cons s l ih =>
    intro cs h
    obtain ⟨e1, he1⟩ : ∃ e, (match s.lo with | none => cs | some a => insT a cs) = e := ⟨_, rfl⟩
    have h1 : Asc e1 ∧ (∀ t ∈ cs, t ∈ e1) ∧ (∀ a, s.lo = some a → a ∈ e1) ∧ e1.length ≤ cs.length + 1 ∧ ∀ t ∈ e1, t ∈ cs ∨ s.lo = some t := by
      subst he1
      cases s.lo with
      | none => exact ⟨h, fun t ht => ht, fun a ha => (by cases ha), by simp, fun t ht => .inl ht⟩
      | some a => exact ⟨insT_asc h, fun t ht => insT_mem.2 (.inr ht), fun a' ha => by injection ha with ha; subst ha; exact insT_mem.2 (.inl rfl), insT_len _ _, fun t ht => by
          rcases insT_mem.1 ht with rfl | ht
          · exact .inr rfl
          · exact .inl ht⟩
    obtain ⟨e2, he2⟩ : ∃ e, (match s.hi with | none => e1 | some a => insT a e1) = e := ⟨_, rfl⟩
    have h2 : Asc e2 ∧ (∀ t ∈ e1, t ∈ e2) ∧ (∀ a, s.hi = some a → a ∈ e2) ∧ e2.length ≤ e1.length + 1 ∧ ∀ t ∈ e2, t ∈ e1 ∨ s.hi = some t := by
      subst he2
      cases s.hi with
      | none => exact ⟨h1.1, fun t ht => ht, fun a ha => (by cases ha), by simp, fun t ht => .inl ht⟩
      | some a => exact ⟨insT_asc h1.1, fun t ht => insT_mem.2 (.inr ht), fun a' ha => by injection ha with ha; subst ha; exact insT_mem.2 (.inl rfl), insT_len _ _, fun t ht => by
          rcases insT_mem.1 ht with rfl | ht
          · exact .inr rfl
          · exact .inl ht⟩
    have e : endsT cs (s :: l) = endsT e2 l := by
      show endsT (match s.hi with | none => (match s.lo with | none => cs | some a => insT a cs) | some b => insT b (match s.lo with | none => cs | some a => insT a cs)) l = _
      rw [← he2, ← he1]
    rw [e]
    obtain ⟨i1, i2, i3, i4, i5⟩ := ih e2 h2.1
    refine ⟨i1, fun t ht => i2 t (h2.2.1 t (h1.2.1 t ht)), fun u hu => ?_, by have := h1.2.2.2.1; have := h2.2.2.2.1; simp; omega, fun t ht => ?_⟩
    · rcases List.mem_cons.1 hu with rfl | hu
      · exact ⟨fun a ha => i2 a (h2.2.1 a (h1.2.2.1 a ha)), fun b hb => i2 b (h2.2.2.1 b hb)⟩
      · exact i3 u hu
    · rcases i5 t ht with h | ⟨u, hu, h⟩
      · rcases h2.2.2.2.2 t h with h | h
        · rcases h1.2.2.2.2 t h with h | h
          · exact .inl h
          · exact .inr ⟨s, List.mem_cons_self .., .inl h⟩
        · exact .inr ⟨s, List.mem_cons_self .., .inr h⟩
      · exact .inr ⟨u, List.mem_cons_of_mem _ hu, h⟩
theorem endsT_snoc (l : List Sp) (s : Sp) (cs : List Rat) : endsT cs (l ++ [s]) = endsT (endsT cs l) [s] := by
  induction l generalizing cs with
  | nil => rfl
  | cons u l ih => exact ih _
/-- Combine's set: its cuts, its marks. -/
theorem combine_sem {a b : List Sp} (f : Bool → Bool → Bool) {p : Rat} {ps : List Rat} (hp : probesT (endsT [] (a ++ b)) = p :: ps) :
    ∃ g ts, fromG [] false none (endsT [] (a ++ b)) ((probesT (endsT [] (a ++ b))).map fun x => f ((clsL a x : Int) == 2) ((clsL b x : Int) == 2)) = spansOf g ts ∧ Asc ts ∧ (∀ t ∈ ts, ∃ s, (s ∈ a ∨ s ∈ b) ∧ (s.lo = some t ∨ s.hi = some t)) ∧ ts.length ≤ 2 * a.length + 2 * b.length ∧
      ∀ x, (∀ s, s ∈ a ∨ s ∈ b → offS s x) → evT g ts x = f (memL a x) (memL b x) := by
  obtain ⟨h1, _, h3, h4, h5⟩ := endsT_spec (a ++ b) [] trivial
  obtain ⟨p', ps', e1, e2⟩ := probes_cons (endsT [] (a ++ b))
  rw [hp] at e1
  injection e1 with e3 e4
  subst e3 e4
  have off : ∀ x, x ∉ endsT [] (a ++ b) → ∀ s, s ∈ a ∨ s ∈ b → offS s x := fun x hx s hs =>
    ⟨fun e => hx ((h3 s (List.mem_append.2 hs)).1 x e), fun e => hx ((h3 s (List.mem_append.2 hs)).2 x e)⟩
  have hmap : (probesT (endsT [] (a ++ b))).map (fun x => f ((clsL a x : Int) == 2) ((clsL b x : Int) == 2)) = (probesT (endsT [] (a ++ b))).map fun x => f (memL a x) (memL b x) := by
    apply List.map_congr_left
    intro x hx
    have h := off x (probes_off h1 x hx)
    rw [clsL_in fun s hs => h s (.inl hs), clsL_in fun s hs => h s (.inr hs)]
  rw [hmap, hp, List.map_cons, from_set (by rw [List.length_map, e2])]
  refine ⟨_, _, rfl, flips_asc h1, fun t ht => ?_, ?_, fun x hx => ?_⟩
  · rcases h5 t (flips_sub ht) with h | ⟨s, hs, h⟩
    · cases h
    · exact ⟨s, List.mem_append.1 hs, h⟩
  · have := @flips_len (f (memL a p) (memL b p)) (endsT [] (a ++ b)) (ps.map fun x => f (memL a x) (memL b x))
    simp at h4; omega
  · refine probes_sem (fun x => f (memL a x) (memL b x)) hp h1 (fun x y hxy => ?_) x (fun hm => ?_)
    · show f _ _ = f _ _
      rw [mem_alike (l := a) (fun s hs => h3 s (List.mem_append_left _ hs)) hxy, mem_alike (l := b) (fun s hs => h3 s (List.mem_append_right _ hs)) hxy]
    · rcases h5 x hm with h | ⟨s, hs, h⟩
      · cases h
      · rcases h with h | h
        · exact (hx s (List.mem_append.1 hs)).1 h
        · exact (hx s (List.mem_append.1 hs)).2 h
end Go.Proofs.YtpgkkkodniiilaaGreatDoor
