/- Plain words on texts of numbers: decimal digits as bytes, the number that digits tell, how a text is cut, what the document says of a text, and that a number's text is read back. No program stands in it. -/
import Derived.Test.YtdmnohmjobofhaaDoorNumJL
import Derived.Lib.ItoaNum
import Derived.Lib.ParseIntB
import Derived.Lib.Repeat
namespace Go.Proofs.YtdmnohmjobofhaaDoor.Nx
open Go.Lib

/-- A byte that is a decimal digit, and its value. -/
def isD (c : UInt8) : Bool := decide (48 ≤ c.toNat ∧ c.toNat ≤ 57)
def dv (c : UInt8) : Nat := c.toNat - 48
/-- The number that digits tell, the first ahead. -/
def dacc (a : Nat) (l : List UInt8) : Nat := l.foldl (fun x c => x * 10 + dv c) a
theorem dacc_nil (a : Nat) : dacc a [] = a := rfl
theorem dacc_cons (a : Nat) (c : UInt8) (r : List UInt8) : dacc a (c :: r) = dacc (a * 10 + dv c) r := by unfold dacc; rw [List.foldl_cons]
def dval (l : List UInt8) : Nat := dacc 0 l

theorem dacc_eq (l : List UInt8) (a : Nat) : dacc a l = a * 10 ^ l.length + dacc 0 l := by
  induction l generalizing a with
  | nil => rw [dacc_nil, dacc_nil]; simp
  | cons c r ih =>
    rw [dacc_cons, ih, dacc_cons, ih (0 * 10 + dv c), List.length_cons, Nat.pow_succ]
    grind
theorem dval_append (l m : List UInt8) : dval (l ++ m) = dval l * 10 ^ m.length + dval m := by
  have : ∀ a, dacc a (l ++ m) = dacc (dacc a l) m := by
    induction l with
    | nil => intro a; rfl
    | cons c r ih => intro a; exact ih _
  unfold dval
  rw [this, dacc_eq]
theorem dval_one (c : UInt8) : dval [c] = dv c := by unfold dval; rw [dacc_cons, dacc_nil]; omega
theorem dval_snoc (l : List UInt8) (c : UInt8) : dval (l ++ [c]) = dval l * 10 + dv c := by
  rw [dval_append, dval_one]; rfl
theorem dval_nil : dval [] = 0 := rfl

def AllD (l : List UInt8) : Prop := ∀ c ∈ l, isD c = true
theorem AllD.nil : AllD [] := fun _ h => by simp at h
theorem AllD.append {l m : List UInt8} (h : AllD l) (k : AllD m) : AllD (l ++ m) := fun c hc => (List.mem_append.1 hc).elim (h c) (k c)
theorem AllD.one {c : UInt8} (h : isD c = true) : AllD [c] := fun x hx => by rw [List.mem_singleton.1 hx]; exact h
theorem AllD.take {l : List UInt8} (h : AllD l) (k : Nat) : AllD (l.take k) := fun x hx => h x (List.mem_of_mem_take hx)
theorem AllD.drop {l : List UInt8} (h : AllD l) (k : Nat) : AllD (l.drop k) := fun x hx => h x (List.mem_of_mem_drop hx)
theorem dv_lt {c : UInt8} (h : isD c = true) : dv c < 10 := by
  simp only [isD, decide_eq_true_iff] at h; unfold dv; omega
theorem dval_lt {l : List UInt8} (h : AllD l) : dval l < 10 ^ l.length := by
  have : ∀ (l : List UInt8), AllD l → ∀ a, dacc a l < (a + 1) * 10 ^ l.length := by
    intro l
    induction l with
    | nil => intro _ a; rw [dacc_nil]; simp
    | cons c r ih =>
      intro h a
      have h1 := ih (fun x hx => h x (by simp [hx])) (a * 10 + dv c)
      have h2 := dv_lt (h c (by simp))
      rw [dacc_cons, List.length_cons, Nat.pow_succ]
      refine Nat.lt_of_lt_of_le h1 ?_
      rw [Nat.mul_comm (10 ^ r.length) 10, ← Nat.mul_assoc]
      exact Nat.mul_le_mul_right _ (by omega)
  have h0 := this l h 0
  rw [Nat.zero_add, Nat.one_mul] at h0
  exact h0

/-! The numeral. -/
theorem ofNat_toNat {n : Nat} (h : n < 10) : (UInt8.ofNat (48 + n)).toNat = 48 + n := by
  rw [UInt8.toNat_ofNat']; omega
theorem isD_of {n : Nat} (h : n < 10) : isD (UInt8.ofNat (48 + n)) = true := by
  unfold isD; rw [ofNat_toNat h, decide_eq_true_iff]; omega
theorem dv_of {n : Nat} (h : n < 10) : dv (UInt8.ofNat (48 + n)) = n := by unfold dv; rw [ofNat_toNat h]; omega

theorem dec_small {u : Nat} (h : u < 10) : decDigits u = [UInt8.ofNat (48 + u)] := decDigits_one h
theorem dec_big {u : Nat} (h : ¬ u < 10) : decDigits u = decDigits (u / 10) ++ [UInt8.ofNat (48 + u % 10)] := by
  rw [decDigits, dif_neg h]
theorem dec_next {M d : Nat} (hM : M ≠ 0) (hd : d < 10) : decDigits (M * 10 + d) = decDigits M ++ [UInt8.ofNat (48 + d)] := by
  rw [dec_big (by omega), show (M * 10 + d) / 10 = M by omega, show (M * 10 + d) % 10 = d by omega]
theorem dec_all (u : Nat) : AllD (decDigits u) := by
  induction u using Nat.strongRecOn with
  | ind u ih =>
    by_cases h : u < 10
    · rw [dec_small h]; exact AllD.one (isD_of h)
    · rw [dec_big h]; exact (ih (u / 10) (by omega)).append (AllD.one (isD_of (by omega)))
theorem dec_val (u : Nat) : dval (decDigits u) = u := by
  induction u using Nat.strongRecOn with
  | ind u ih =>
    by_cases h : u < 10
    · rw [dec_small h, dval_one, dv_of h]
    · rw [dec_big h, dval_snoc, ih (u / 10) (by omega), dv_of (by omega)]; omega
theorem dec_ne (u : Nat) : decDigits u ≠ [] := by
  intro h
  have := decDigits_length u
  have := nDigits_pos u
  rw [h] at *; simp at *; omega
theorem dec_head {u : Nat} (hu : u ≠ 0) : (decDigits u).head? ≠ some 48 := by
  induction u using Nat.strongRecOn with
  | ind u ih =>
    by_cases h : u < 10
    · rw [dec_small h]
      intro hc
      simp only [List.head?_cons, Option.some.injEq] at hc
      have := congrArg UInt8.toNat hc
      rw [ofNat_toNat h] at this
      have e : (48 : UInt8).toNat = 48 := rfl
      omega
    · rw [dec_big h, List.head?_append]
      have := ih (u / 10) (by omega) (by omega)
      cases hd : (decDigits (u / 10)).head? with
      | none => rw [List.head?_eq_none_iff] at hd; exact absurd hd (dec_ne _)
      | some c => rw [hd] at this; simpa using this
theorem dec_zero : decDigits 0 = [48] := by rw [dec_small (by omega)]; rfl
theorem nDigits_le {u k : Nat} (h : u < 10 ^ k) (hk : 0 < k) : nDigits u ≤ k := by
  induction k generalizing u with
  | zero => omega
  | succ k ih =>
    by_cases h10 : u < 10
    · rw [nDigits_small h10]; omega
    · rw [nDigits_big h10]
      rw [Nat.pow_succ] at h
      have hk0 : 0 < k := by
        rcases Nat.eq_zero_or_pos k with e | e
        · subst e; simp at h; omega
        · exact e
      have := ih (u := u / 10) (by omega) hk0
      omega
theorem dec_len_le {u k : Nat} (h : u < 10 ^ k) (hk : 0 < k) : (decDigits u).length ≤ k := by
  rw [decDigits_length]; exact nDigits_le h hk

/-- The k last digits of r. -/
def pads : Nat → Nat → List UInt8
  | 0, _ => []
  | k + 1, r => pads k (r / 10) ++ [UInt8.ofNat (48 + r % 10)]
theorem dec_pads (k : Nat) {M r : Nat} (hM : M ≠ 0) (hr : r < 10 ^ k) : decDigits (M * 10 ^ k + r) = decDigits M ++ pads k r := by
  induction k generalizing r with
  | zero => simp at hr; subst hr; simp [pads]
  | succ k ih =>
    rw [Nat.pow_succ] at hr
    have e : M * 10 ^ (k + 1) + r = (M * 10 ^ k + r / 10) * 10 + r % 10 := by rw [Nat.pow_succ]; grind
    have hp : 0 < 10 ^ k := Nat.pow_pos (by omega)
    have hne : M * 10 ^ k + r / 10 ≠ 0 := by
      have : 0 < M * 10 ^ k := Nat.mul_pos (by omega) hp
      omega
    rw [e, dec_next hne (by omega), ih (by omega), pads, List.append_assoc]
theorem pads_zero (k : Nat) : pads k 0 = List.replicate k 48 := by
  induction k with
  | zero => rfl
  | succ k ih => rw [pads, Nat.zero_div, ih, List.replicate_succ']; rfl
theorem pads_eq (k : Nat) {r : Nat} (h : nDigits r ≤ k) : pads k r = List.replicate (k - nDigits r) 48 ++ decDigits r := by
  induction k generalizing r with
  | zero => have := nDigits_pos r; omega
  | succ k ih =>
    by_cases h10 : r < 10
    · rw [pads, dec_small h10, nDigits_small h10, show r / 10 = 0 by omega, pads_zero, Nat.mod_eq_of_lt h10, Nat.add_sub_cancel]
    · rw [nDigits_big h10] at h
      rw [pads, dec_big h10, nDigits_big h10, ih (by omega), List.append_assoc, show k + 1 - (nDigits (r / 10) + 1) = k - nDigits (r / 10) by omega]
/-- What decimal adds in a round. -/
theorem dec_group {k M r : Nat} (hM : M ≠ 0) (hk : 0 < k) (hr : r < 10 ^ k) : decDigits (M * 10 ^ k + r) = decDigits M ++ (List.replicate (k - (decDigits r).length) 48 ++ decDigits r) := by
  rw [dec_pads k hM hr, pads_eq k (nDigits_le hr hk), decDigits_length]

/-! What the library's parsers say of digits. -/
theorem parseM_digits (M : Nat) (hM : M ≤ 18446744073709551615) (l : List UInt8) (h : AllD l) (a : Nat) (hv : dacc a l ≤ M) : parseUintM M a l = .ok (dacc a l) := by
  induction l generalizing a with
  | nil => rfl
  | cons c r ih =>
    have hc := h c (by simp)
    have hr : AllD r := fun x hx => h x (by simp [hx])
    have hc' := hc
    simp only [isD, decide_eq_true_iff] at hc'
    rw [dacc_cons] at hv ⊢
    have hge : a * 10 + dv c ≤ dacc (a * 10 + dv c) r := by
      rw [dacc_eq]
      have : 1 ≤ 10 ^ r.length := Nat.one_le_pow _ _ (by omega)
      have := Nat.mul_le_mul_left (a * 10 + dv c) this
      omega
    unfold dv at hge hv
    rw [parseUintM, if_pos hc', if_neg (by omega), if_neg (by omega)]
    exact ih hr _ hv
theorem parseU_digits {l : List UInt8} (h : AllD l) (hn : l ≠ []) (hv : dval l < 18446744073709551616) : parseUintB 64 l = .ok (dval l) := by
  unfold parseUintB
  rw [if_neg hn]
  exact parseM_digits _ (by decide) l h 0 (by have : dacc 0 l = dval l := rfl; rw [this, show 2 ^ 64 - 1 = 18446744073709551615 from rfl]; omega)
theorem parseI_pos {l : List UInt8} (h : AllD l) (hn : l ≠ []) (hv : dval l < 9223372036854775808) : parseIntB 64 l = .ok (dval l : Int) := by
  cases l with
  | nil => exact absurd rfl hn
  | cons c r =>
    have hc := h c (by simp)
    simp only [isD, decide_eq_true_iff] at hc
    simp only [parseIntB]
    rw [if_neg (by omega), parseU_digits h hn (by omega)]
    simp only
    rw [if_neg (by rintro ⟨_, h2⟩; have e : 2 ^ (64 - 1) = 9223372036854775808 := rfl; omega), if_neg (by omega), if_neg (by omega)]
theorem parseI_neg {l : List UInt8} (h : AllD l) (hn : l ≠ []) (hv : dval l < 9223372036854775808) : parseIntB 64 (45 :: l) = .ok (-(dval l : Int)) := by
  have e45 : (45 : UInt8).toNat = 45 := rfl
  simp only [parseIntB]
  rw [if_pos (Or.inr e45), parseU_digits h hn (by omega)]
  simp only
  rw [if_neg (by rintro ⟨h2, _⟩; exact h2 e45), if_neg (by rintro ⟨_, h2⟩; have e : 2 ^ (64 - 1) = 9223372036854775808 := rfl; omega), if_pos e45]

/-! How a text is cut. -/
def dsp (l : List UInt8) : List UInt8 := l.takeWhile isD
def rsp (l : List UInt8) : List UInt8 := l.dropWhile isD
theorem dsp_all (l : List UInt8) : AllD (dsp l) := fun c hc => (List.all_eq_true.1 (List.all_takeWhile (p := isD) (l := l))) c hc
theorem dsp_rsp (l : List UInt8) : dsp l ++ rsp l = l := List.takeWhile_append_dropWhile
theorem dsp_take (l : List UInt8) : dsp l = l.take (dsp l).length := by
  have h := dsp_rsp l
  have h2 := List.take_left (l₁ := dsp l) (l₂ := rsp l)
  rw [h] at h2
  exact h2.symm
theorem rsp_drop (l : List UInt8) : rsp l = l.drop (dsp l).length := by
  have h := dsp_rsp l
  have h2 := List.drop_left (l₁ := dsp l) (l₂ := rsp l)
  rw [h] at h2
  exact h2.symm
theorem dsp_len_le (l : List UInt8) : (dsp l).length ≤ l.length := by
  have := congrArg List.length (dsp_rsp l); simp at this; omega
/-- Where the digits end. -/
theorem dsp_is {l : List UInt8} {n : Nat} (hn : n ≤ l.length) (hd : AllD (l.take n)) (he : ∀ c, l[n]? = some c → isD c = false) : dsp l = l.take n ∧ rsp l = l.drop n := by
  have e : l = l.take n ++ l.drop n := (List.take_append_drop n l).symm
  have h1 : dsp l = l.take n := by
    unfold dsp
    conv => lhs; rw [e]
    rw [List.takeWhile_append_of_pos hd]
    cases hx : l.drop n with
    | nil => simp
    | cons c r =>
      have : l[n]? = some c := by
        have := congrArg List.head? hx
        simpa [List.head?_drop] using this
      simp [he c this]
  refine ⟨h1, ?_⟩
  rw [rsp_drop, h1, List.length_take, Nat.min_eq_left hn]
theorem dsp_append {a b : List UInt8} (ha : AllD a) (hb : ∀ c, b.head? = some c → isD c = false) : dsp (a ++ b) = a ∧ rsp (a ++ b) = b := by
  have := dsp_is (l := a ++ b) (n := a.length) (by simp) (by simpa using ha) (fun c hc => hb c (by
    rw [List.getElem?_append_right (Nat.le_refl _), Nat.sub_self] at hc
    rw [← hc, List.head?_eq_getElem?]))
  simpa using this

/-- Is there a '-' ahead; what is behind it. -/
def sg (l : List UInt8) : Bool := l.head? == some 45
def un (l : List UInt8) : List UInt8 := if sg l then l.tail else l
/-- Digits that may stand: some, not too many, no needless 0 and no '-' ahead of a 0. -/
def gd (most : Nat) (neg : Bool) (ds : List UInt8) : Bool := !ds.isEmpty && decide (ds.length ≤ most) && !((ds.head? == some 48) && (neg || decide (1 < ds.length)))
def sgn (s : Bool) (n : Nat) : Int := if s then -(n : Int) else (n : Int)
def exs (r : List UInt8) : Option Int :=
  if r = [] then some 0 else if r.head? = some 112 ∧ gd 6 (sg r.tail) (dsp (un r.tail)) = true ∧ (dsp (un r.tail)).head? ≠ some 48 ∧ rsp (un r.tail) = [] then
    some (sgn (sg r.tail) (dval (dsp (un r.tail)))) else none
theorem exs_p {u : List UInt8} (h1 : gd 6 (sg u) (dsp (un u)) = true) (h2 : (dsp (un u)).head? ≠ some 48) (h3 : rsp (un u) = []) : exs (112 :: u) = some (sgn (sg u) (dval (dsp (un u)))) := by
  unfold exs
  rw [if_neg (by simp), if_pos ⟨rfl, h1, h2, h3⟩]
  rfl
/-- What the document says of a text. -/
noncomputable def prs (l : List UInt8) : Q × Int :=
  if gd 1300 (sg l) (dsp (un l)) = true ∧ ((dsp (un l)).head? = some 48 → rsp (un l) = []) then
    match exs (rsp (un l)) with
    | some e => res (nm (sg l) (dval (dsp (un l))) e)
    | none => (q0, 5)
  else (q0, 5)
/-- A number's text. -/
def txt (q : Q) : List UInt8 := (if q.s then [45] else []) ++ decDigits q.m ++ (if q.e = 0 then [] else 112 :: itoa q.e)

theorem gd_iff {most : Nat} {neg : Bool} {ds : List UInt8} : gd most neg ds = true ↔ ds ≠ [] ∧ ds.length ≤ most ∧ (ds.head? = some 48 → neg = false ∧ ds.length ≤ 1) := by
  unfold gd
  cases ds with
  | nil => simp
  | cons c r =>
    cases neg <;> by_cases hc : c = 48 <;> simp [hc]
theorem gd_zero {most : Nat} {neg : Bool} {ds : List UInt8} (h : gd most neg ds = true) : ds = [48] ↔ ds.head? = some 48 := by
  obtain ⟨h1, _, h3⟩ := gd_iff.1 h
  constructor
  · rintro rfl; rfl
  · intro hh
    cases ds with
    | nil => exact absurd rfl h1
    | cons c r =>
      have := (h3 hh).2
      simp at this hh
      simp [this, hh]

theorem itoa_pos {e : Int} (h : 0 ≤ e) : itoa e = decDigits e.toNat := by unfold itoa; rw [if_neg (by omega)]
theorem itoa_neg' {e : Int} (h : e < 0) : itoa e = 45 :: decDigits e.natAbs := by unfold itoa; rw [if_pos h]
theorem sg_dec (u : Nat) (r : List UInt8) : sg (decDigits u ++ r) = false := by
  unfold sg
  cases hd : decDigits u with
  | nil => exact absurd hd (dec_ne u)
  | cons c t =>
    have := dec_all u c (by rw [hd]; simp)
    simp only [isD, decide_eq_true_iff] at this
    simp only [List.cons_append, List.head?_cons, beq_eq_false_iff_ne, ne_eq, Option.some.injEq]
    rintro rfl
    have e45 : (45 : UInt8).toNat = 45 := rfl
    omega
theorem un_dec (u : Nat) (r : List UInt8) : un (decDigits u ++ r) = decDigits u ++ r := by unfold un; rw [sg_dec]; rfl
theorem un_neg (l : List UInt8) : un (45 :: l) = l := rfl
theorem sg_neg (l : List UInt8) : sg (45 :: l) = true := rfl

theorem exs_itoa {e : Int} (h1 : -999999 ≤ e) (h2 : e ≤ 999999) (h0 : e ≠ 0) : exs (112 :: itoa e) = some e := by
  by_cases hp : 0 ≤ e
  · have ed : itoa e = decDigits e.toNat ++ [] := by rw [itoa_pos hp, List.append_nil]
    have hs : sg (itoa e) = false := by rw [ed]; exact sg_dec _ _
    have hu : un (itoa e) = decDigits e.toNat ++ [] := by rw [ed]; exact un_dec _ _
    obtain ⟨d1, d2⟩ := dsp_append (dec_all e.toNat) (b := []) (fun c hc => by simp at hc)
    have hl : (decDigits e.toNat).length ≤ 6 := dec_len_le (by omega) (by omega)
    have hh := dec_head (u := e.toNat) (by omega)
    have h := exs_p (u := itoa e)
    rw [hs, hu, d1, d2] at h
    rw [h (gd_iff.2 ⟨dec_ne _, hl, fun h => absurd h hh⟩) hh rfl, dec_val]
    unfold sgn
    simp only [Bool.false_eq_true, if_false]
    congr 1; omega
  · have ed : itoa e = 45 :: decDigits e.natAbs := itoa_neg' (by omega)
    have hs : sg (itoa e) = true := by rw [ed]; rfl
    have hu : un (itoa e) = decDigits e.natAbs ++ [] := by rw [ed, un_neg, List.append_nil]
    obtain ⟨d1, d2⟩ := dsp_append (dec_all e.natAbs) (b := []) (fun c hc => by simp at hc)
    have hl : (decDigits e.natAbs).length ≤ 6 := dec_len_le (by omega) (by omega)
    have hh := dec_head (u := e.natAbs) (by omega)
    have h := exs_p (u := itoa e)
    rw [hs, hu, d1, d2] at h
    rw [h (gd_iff.2 ⟨dec_ne _, hl, fun h => absurd h hh⟩) hh rfl, dec_val]
    unfold sgn
    simp only [if_true]
    congr 1; omega

/-- A text of digits, an exponent behind them. -/
theorem prs_dec {s : Bool} {M : Nat} {r : List UInt8} {e : Int} (hM : M < 10 ^ 1300) (hs : s = true → M ≠ 0) (hr : ∀ c, r.head? = some c → isD c = false) (hz : M = 0 → r = []) (he : exs r = some e) :
    prs ((if s then [45] else []) ++ decDigits M ++ r) = res (nm s M e) := by
  have hsg : sg ((if s then [45] else []) ++ decDigits M ++ r) = s := by
    cases s
    · simp only [Bool.false_eq_true, if_false, List.nil_append]; exact sg_dec _ _
    · rfl
  have hun : un ((if s then [45] else []) ++ decDigits M ++ r) = decDigits M ++ r := by
    cases s
    · simp only [Bool.false_eq_true, if_false, List.nil_append]; exact un_dec _ _
    · rfl
  obtain ⟨d1, d2⟩ := dsp_append (dec_all M) hr
  unfold prs
  rw [hsg, hun, d1, d2]
  have hg : gd 1300 s (decDigits M) = true := gd_iff.2 ⟨dec_ne _, dec_len_le hM (by omega), fun h => by
    have h0 : M = 0 := by
      rcases Nat.eq_zero_or_pos M with e | e
      · exact e
      · exact absurd h (dec_head (by omega))
    subst h0
    refine ⟨?_, by rw [dec_zero]; exact Nat.le_refl _⟩
    cases s
    · rfl
    · exact absurd rfl (hs rfl)⟩
  rw [if_pos ⟨hg, fun h => hz (by
    rcases Nat.eq_zero_or_pos M with e | e
    · exact e
    · exact absurd h (dec_head (by omega)))⟩, he, dec_val]

theorem b64_ten : B64 ^ 64 ≤ 10 ^ 1300 := by unfold B64; decide +kernel
theorem exs_nil : exs [] = some 0 := by unfold exs; rw [if_pos rfl]
theorem not_p : ∀ c : UInt8, (112 :: ([] : List UInt8)).head? = some c → isD c = false := by
  intro c hc; simp at hc; subst hc; rfl
/-- A number's text is read back. -/
theorem prs_txt {q : Q} (h : Valid q) : prs (txt q) = (q, 0) := by
  obtain ⟨hc, hf⟩ := h
  have hr := res_ok hf
  unfold txt
  rw [prs_dec (e := q.e) (Nat.lt_of_lt_of_le hf.1 b64_ten) (fun hs h0 => by
    have := hc.1 h0; rw [this] at hs; cases hs) (fun c hc' => by
      by_cases he : q.e = 0
      · rw [if_pos he] at hc'; simp at hc'
      · rw [if_neg he] at hc'; simp at hc'; subst hc'; rfl) (fun h0 => by
        have := hc.1 h0; rw [if_pos (by rw [this]; rfl)]) (by
        by_cases he : q.e = 0
        · rw [if_pos he, he]; exact exs_nil
        · rw [if_neg he]; exact exs_itoa (by have := hf.2.1; omega) (by have := hf.2.2; omega) he), nm_of hc, hr]
end Go.Proofs.YtdmnohmjobofhaaDoor.Nx
