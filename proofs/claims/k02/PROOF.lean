import PyProof.Rows.All
import Wide.All
import OpenK.AllK
import Wide.FinOn
import HandS.ForMost
import HandS.Evl
import HandS.Wide
import HandS.IsInst
import HandS.SortRule
import HandS.Steps
import HandS.Flow
import HandS.Style
import KE.Datum
import HandS.TupSets
import HandS.More
import HandS.SetFor
import PySem.Challenge.RW_spreadrow_k02_whole_step_by_step
set_option Elab.async false
namespace Mth
abbrev P2 := Int × Int

/-! ### a block: so many, whose places sum to so much -/
def bFirst (b : P2) : Int := (b.2 - b.1 * (b.1 + 1) / 2) / b.1 + 1
def bGap (b : P2) : Int := (b.1 + 1) * bFirst b + b.1 * (b.1 + 1) / 2 - b.2
def bLast (b : P2) : Int := bFirst b + b.1
def bParts (b : P2) : List P2 := if bGap b < bLast b then [(bFirst b, bGap b - 1), (bGap b + 1, bLast b)] else [(bFirst b, bGap b - 1)]
def bEnd (b : P2) : Int := if bGap b < bLast b then bLast b else bGap b - 1
def bAdd (a b : P2) : P2 := (a.1 + b.1, a.2 + b.2)

/-! ### pairs sorted -/
def leP (a b : P2) : Bool := decide (a.1 < b.1) || (decide (a.1 = b.1) && decide (a.2 ≤ b.2))
def insP (x : P2) : List P2 → List P2
  | [] => [x]
  | y :: r => if leP x y then x :: y :: r else y :: insP x r
def sortP : List P2 → List P2
  | [] => []
  | x :: r => insP x (sortP r)
theorem leP_total (a b : P2) : leP a b = true ∨ leP b a = true := by
  unfold leP
  simp only [Bool.or_eq_true, Bool.and_eq_true, decide_eq_true_eq]
  omega
theorem leP_trans {a b c : P2} (h : leP a b = true) (k : leP b c = true) : leP a c = true := by
  unfold leP at *
  simp only [Bool.or_eq_true, Bool.and_eq_true, decide_eq_true_eq] at *
  omega
theorem leP_anti {a b : P2} (h : leP a b = true) (k : leP b a = true) : a = b := by
  unfold leP at *
  simp only [Bool.or_eq_true, Bool.and_eq_true, decide_eq_true_eq] at *
  exact Prod.ext (by omega) (by omega)
theorem insP_perm (x : P2) : ∀ l : List P2, (insP x l).Perm (x :: l)
  | [] => List.Perm.refl _
  | y :: r => by
    unfold insP
    split
    · exact List.Perm.refl _
    · exact ((insP_perm x r).cons y).trans (List.Perm.swap x y r)
theorem sortP_perm : ∀ l : List P2, (sortP l).Perm l
  | [] => List.Perm.refl _
  | x :: r => (insP_perm x (sortP r)).trans ((sortP_perm r).cons x)
def Sd (l : List P2) : Prop := l.Pairwise fun a b => leP a b = true
theorem insP_sd (x : P2) : ∀ l : List P2, Sd l → Sd (insP x l)
  | [], _ => List.pairwise_singleton _ _
  | y :: r, h => by
    unfold insP
    obtain ⟨h1, h2⟩ := List.pairwise_cons.mp h
    split
    · rename_i e
      refine List.pairwise_cons.mpr ⟨fun z hz => ?_, h⟩
      rcases List.mem_cons.mp hz with rfl | hz
      · exact e
      · exact leP_trans e (h1 z hz)
    · rename_i e
      refine List.pairwise_cons.mpr ⟨fun z hz => ?_, insP_sd x r h2⟩
      rcases List.mem_cons.mp ((insP_perm x r).mem_iff.mp hz) with rfl | hz
      · exact (leP_total y z).resolve_right e
      · exact h1 z hz
theorem sortP_sd : ∀ l : List P2, Sd (sortP l)
  | [] => List.Pairwise.nil
  | x :: r => insP_sd x _ (sortP_sd r)
theorem sd_uniq : ∀ {l m : List P2}, Sd l → Sd m → l.Perm m → l = m
  | [], m, _, _, p => p.nil_eq
  | x :: l, [], _, _, p => absurd p.length_eq (by simp)
  | x :: l, y :: m, hl, hm, p => by
    obtain ⟨a1, a2⟩ := List.pairwise_cons.mp hl
    obtain ⟨b1, b2⟩ := List.pairwise_cons.mp hm
    have e : x = y := by
      rcases List.mem_cons.mp (p.mem_iff.mp List.mem_cons_self) with e | hx
      · exact e
      · rcases List.mem_cons.mp (p.mem_iff.mpr (List.mem_cons_self (a := y) (l := m))) with e | hy
        · exact e.symm
        · exact leP_anti (a1 y hy) (b1 x hx)
    subst e
    rw [sd_uniq a2 b2 p.cons_inv]
theorem sortP_eq {l m : List P2} (p : m.Perm l) (s : Sd m) : m = sortP l := sd_uniq s (sortP_sd l) (p.trans (sortP_perm l).symm)
theorem sortP_congr {l m : List P2} (p : l.Perm m) : sortP l = sortP m := sortP_eq ((sortP_perm l).trans p) (sortP_sd l)

/-! ### the stack of blocks (top first), the stretches (last first) -/
def push : List P2 → P2 → List P2
  | [], b => [b]
  | a :: r, b => if bFirst b ≤ bEnd a then push r (bAdd a b) else b :: a :: r
def pushH (st : List P2) (h : P2) : List P2 := if 0 < h.2 then push st (h.2, h.2 * h.1) else st
def stack (hs : List P2) : List P2 := (sortP hs).foldl pushH []
def join1 : List P2 → P2 → List P2
  | [], p => [p]
  | q :: r, p => if q.2 + 1 = p.1 then (q.1, p.2) :: r else p :: q :: r
def joins (ps : List P2) : List P2 := ps.foldl join1 []
def stretches (hs : List P2) : List P2 := (joins ((stack hs).reverse.flatMap bParts)).reverse

theorem stretches_congr {l m : List P2} (p : l.Perm m) : stretches l = stretches m := by
  unfold stretches stack
  rw [sortP_congr p]

theorem tri_even (n : Int) : 2 * (n * (n + 1) / 2) = n * (n + 1) := by
  have h : n * (n + 1) % 2 = 0 := by
    have : n % 2 = 0 ∨ n % 2 = 1 := by omega
    rcases this with h | h
    · rw [Int.mul_emod, h]; simp
    · have h2 : (n + 1) % 2 = 0 := by omega
      rw [Int.mul_emod, h2]; simp
  omega

theorem bGap_bounds {b : P2} (h : 0 < b.1) : bFirst b < bGap b ∧ bGap b ≤ bLast b := by
  obtain ⟨n, t⟩ := b
  simp only [bGap, bFirst, bLast] at *
  have e := tri_even n
  generalize n * (n + 1) / 2 = s at *
  have h1 := Int.mul_ediv_add_emod (t - s) n
  have h2 := Int.emod_nonneg (t - s) (show n ≠ 0 by omega)
  have h3 := Int.emod_lt_of_pos (t - s) h
  generalize (t - s) / n = q at *
  generalize (t - s) % n = r at *
  have : (n + 1) * (q + 1) = n * q + n + q + 1 := by grind
  constructor <;> omega
/-- what a block is, by its first place and its gap -/
structure Is (b : P2) (f g : Int) : Prop where
  pos : 0 < b.1
  lo : f < g
  hi : g ≤ f + b.1
  sum : 2 * b.2 = 2 * (b.1 + 1) * f + b.1 * (b.1 + 1) - 2 * g
theorem is_of {b : P2} (h : 0 < b.1) : Is b (bFirst b) (bGap b) := by
  obtain ⟨h1, h2⟩ := bGap_bounds h
  refine ⟨h, h1, h2, ?_⟩
  have e := tri_even b.1
  unfold bGap
  generalize b.1 * (b.1 + 1) / 2 = s at *
  grind
theorem Is.uniq {b : P2} {f g : Int} (h : Is b f g) : bFirst b = f ∧ bGap b = g := by
  obtain ⟨hp, l1, h1, s1⟩ := h
  obtain ⟨_, l2, h2, s2⟩ := is_of hp
  generalize bFirst b = f2 at *
  generalize bGap b = g2 at *
  obtain ⟨n, t⟩ := b
  simp only at *
  have e : n * (f2 - f) + (f2 - f) = g2 - g := by grind
  have e2 : f2 = f := by
    rcases Int.lt_trichotomy f2 f with q | q | q
    · have : n * (f2 - f) ≤ n * (-1) := Int.mul_le_mul_of_nonneg_left (by omega) (by omega)
      omega
    · exact q
    · have : n * 1 ≤ n * (f2 - f) := Int.mul_le_mul_of_nonneg_left (by omega) (by omega)
      omega
  subst e2
  refine ⟨rfl, ?_⟩
  have : n * (f2 - f2) = 0 := by simp
  omega
end Mth

set_option Elab.async false
namespace Mth
/-! ### sums over places side by side -/
def S (φ : Int → Int) (f : Int) : Nat → Int
  | 0 => 0
  | m + 1 => S φ f m + φ (f + m)
theorem S_left (φ : Int → Int) (f : Int) : ∀ m : Nat, S φ f (m + 1) = φ f + S φ (f + 1) m
  | 0 => by simp [S]
  | m + 1 => by
    show S φ f (m + 1) + φ (f + (m + 1 : Nat)) = φ f + (S φ (f + 1) m + φ (f + 1 + m))
    rw [S_left φ f m]
    have e : f + ((m + 1 : Nat) : Int) = f + 1 + m := by omega
    rw [e]
    omega
theorem S_add (φ : Int → Int) (f : Int) (m : Nat) : ∀ k : Nat, S φ f (m + k) = S φ f m + S φ (f + m) k
  | 0 => by simp [S]
  | k + 1 => by
    show S φ f (m + k) + φ (f + (m + k : Nat)) = S φ f m + (S φ (f + m) k + φ (f + m + k))
    rw [S_add φ f m k]
    have e : f + ((m + k : Nat) : Int) = f + m + k := by omega
    rw [e]
    omega
theorem S_congr {φ ψ : Int → Int} {f : Int} : ∀ {m : Nat}, (∀ x, f ≤ x → x < f + m → φ x = ψ x) → S φ f m = S ψ f m
  | 0, _ => rfl
  | m + 1, h => by
    show S φ f m + φ (f + m) = S ψ f m + ψ (f + m)
    rw [S_congr fun x a b => h x a (by omega), h (f + m) (by omega) (by omega)]
/-- n + 1 places from f on but g -/
def T (φ : Int → Int) (n f g : Int) : Int := S φ f (n + 1).toNat - φ g
theorem S_one (f : Int) : ∀ m : Nat, S (fun _ => 1) f m = m
  | 0 => rfl
  | m + 1 => by
    show S (fun _ => 1) f m + 1 = _
    rw [S_one f m]
    omega
theorem S_id (f : Int) : ∀ m : Nat, 2 * S (fun x => x) f m = m * (2 * f + m - 1)
  | 0 => by simp [S]
  | m + 1 => by
    show 2 * (S (fun x => x) f m + (f + m)) = _
    have := S_id f m
    have e : ((m + 1 : Nat) : Int) = m + 1 := by omega
    rw [e]
    grind
/-- what lies left of p, and how far -/
def ph (p x : Int) : Int := if x < p then p - x else 0
def Ph (p : Int) : Int → Int := fun x => ph p x
theorem ph4 {p a d x y : Int} (h1 : a ≤ x) (h2 : a ≤ y) (h : x + y = a + d) : ph p x + ph p y ≤ ph p a + ph p d := by
  unfold ph
  repeat' split
  all_goals omega

def BT (φ : Int → Int) (b : P2) : Int := T φ b.1 (bFirst b) (bGap b)
theorem BT_is {φ : Int → Int} {b : P2} {f g : Int} (h : Is b f g) : BT φ b = T φ b.1 f g := by
  obtain ⟨e1, e2⟩ := h.uniq
  unfold BT
  rw [e1, e2]
theorem toNat_succ {n : Int} (h : 0 ≤ n) : (n + 1).toNat = n.toNat + 1 := by omega

/-- one more put at y, on the block or just right of it -/
theorem add_chip {b : P2} {f g y : Int} (h : Is b f g) (h1 : f ≤ y) (h2 : y ≤ f + b.1 + 1) :
    ∃ f' g', Is (b.1 + 1, b.2 + y) f' g' ∧ (y < g → f' = f - 1) ∧ (g ≤ y → f' = f) ∧ (y < g → g < f + b.1 → g' < f' + b.1 + 1) ∧ (g < y → g' < f' + b.1 + 1) ∧ ∀ p, T (Ph p) b.1 f g + ph p y ≤ T (Ph p) (b.1 + 1) f' g' := by
  obtain ⟨hp, lo, hi, sm⟩ := h
  obtain ⟨n, t⟩ := b
  simp only at *
  have hm : (n + 1 + 1).toNat = (n + 1).toNat + 1 := by omega
  rcases Int.lt_trichotomy y g with q | q | q
  · refine ⟨f - 1, f - 1 + (g - y), ⟨by show 0 < n + 1; omega, by omega, by show f - 1 + (g - y) ≤ f - 1 + (n + 1); omega, ?_⟩, fun _ => rfl, fun z => absurd z (by omega), fun _ _ => by omega, fun _ => by omega, fun p => ?_⟩
    · show 2 * (t + y) = _
      grind
    · unfold T
      rw [hm, S_left, show f - 1 + 1 = f by omega]
      have := ph4 (p := p) (a := f - 1) (d := g) (x := y) (y := f - 1 + (g - y)) (by omega) (by omega) (by omega)
      show S (Ph p) f (n + 1).toNat - ph p g + ph p y ≤ ph p (f - 1) + S (Ph p) f (n + 1).toNat - ph p (f - 1 + (g - y))
      omega
  · subst q
    refine ⟨f, f + n + 1, ⟨by show 0 < n + 1; omega, by omega, by show f + n + 1 ≤ f + (n + 1); omega, ?_⟩, fun z => absurd z (by omega), fun _ => rfl, fun z => absurd z (by omega), fun z => absurd z (by omega), fun p => ?_⟩
    · show 2 * (t + y) = _
      grind
    · unfold T
      rw [hm]
      show S (Ph p) f (n + 1).toNat - ph p y + ph p y ≤ S (Ph p) f (n + 1).toNat + ph p (f + (n + 1).toNat) - ph p (f + n + 1)
      rw [show f + ((n + 1).toNat : Int) = f + n + 1 by omega]
      omega
  · refine ⟨f, f + n + 1 - (y - g), ⟨by show 0 < n + 1; omega, by omega, by show f + n + 1 - (y - g) ≤ f + (n + 1); omega, ?_⟩, fun z => absurd z (by omega), fun _ => rfl, fun z => absurd z (by omega), fun _ => by omega, fun p => ?_⟩
    · show 2 * (t + y) = _
      grind
    · unfold T
      rw [hm]
      have := ph4 (p := p) (a := g) (d := f + n + 1) (x := y) (y := f + n + 1 - (y - g)) (by omega) (by omega) (by omega)
      show S (Ph p) f (n + 1).toNat - ph p g + ph p y ≤ S (Ph p) f (n + 1).toNat + ph p (f + (n + 1).toNat) - ph p (f + n + 1 - (y - g))
      rw [show f + ((n + 1).toNat : Int) = f + n + 1 by omega]
      omega
/-- the last place that is taken -/
def en (n f g : Int) : Int := if g < f + n then f + n else g - 1
theorem bEnd_is {b : P2} {f g : Int} (h : Is b f g) : bEnd b = en b.1 f g := by
  obtain ⟨e1, e2⟩ := h.uniq
  unfold bEnd en bLast
  rw [e1, e2]
/-- k more put side by side from y on; w: how far beyond the block y may lie (0 or 1) -/
theorem add_run {w : Int} (hw : w = 0 ∨ w = 1) : ∀ (k : Nat) {b : P2} {f g y : Int}, Is b f g → f ≤ y → y ≤ f + b.1 + w →
    ∃ f' g', Is (b.1 + k, b.2 + S (fun x => x) y k) f' g' ∧ f' ≤ f ∧ en b.1 f g ≤ en (b.1 + k) f' g' ∧ (0 < k → y + k - 1 ≤ en (b.1 + k) f' g') ∧ y + k ≤ f' + (b.1 + k) + w ∧ ∀ p, T (Ph p) b.1 f g + S (Ph p) y k ≤ T (Ph p) (b.1 + k) f' g'
  | 0, b, f, g, y, h, h1, h2 => ⟨f, g, by
      show Is (b.1 + ((0 : Nat) : Int), b.2 + 0) f g
      rw [Int.add_zero, show b.1 + ((0 : Nat) : Int) = b.1 by omega]
      exact h, by omega, by rw [show b.1 + ((0 : Nat) : Int) = b.1 by omega]; omega, fun z => absurd z (by omega), by omega, fun p => by
      rw [show b.1 + ((0 : Nat) : Int) = b.1 by omega]
      simp [S]⟩
  | k + 1, b, f, g, y, h, h1, h2 => by
    obtain ⟨f1, g1, i1, c1, c2, c3, c4, le1⟩ := add_chip h h1 (by omega)
    have nx : y + 1 ≤ f1 + (b.1 + 1) + w := by
      have := h.hi
      rcases Int.lt_or_le y g with q | q
      · have := c1 q; omega
      · have := c2 q; omega
    have lo1 : f1 ≤ y + 1 := by
      rcases Int.lt_or_le y g with q | q
      · have := c1 q; omega
      · have := c2 q; omega
    obtain ⟨f2, g2, i2, a1, a2, a3, a4, le2⟩ := add_run hw k (b := (b.1 + 1, b.2 + y)) i1 lo1 nx
    have ek : b.1 + ((k + 1 : Nat) : Int) = b.1 + 1 + (k : Int) := by omega
    have eS : b.2 + S (fun x => x) y (k + 1) = b.2 + y + S (fun x => x) (y + 1) k := by
      rw [S_left]
      omega
    rw [ek, eS]
    simp only at i2 a1 a2 a3 a4 le2
    have l1 := h.lo
    have l2 := h.hi
    have l3 := i1.lo
    have l4 : g1 ≤ f1 + (b.1 + 1) := i1.hi
    have e1 : en b.1 f g ≤ en (b.1 + 1) f1 g1 := by
      unfold en
      rcases Int.lt_trichotomy y g with q | q | q
      · have := c1 q
        by_cases z : g < f + b.1
        · have := c3 q z
          rw [if_pos z, if_pos (by omega)]; omega
        · rw [if_neg z]
          split <;> omega
      · have := c2 (by omega)
        have hs := i1.sum
        split <;> split <;> first | omega | (have hs := i1.sum; have hs2 := h.sum; simp only at hs; exfalso; grind)
      · have := c2 (by omega)
        have := c4 q
        rw [if_pos (show g1 < f1 + (b.1 + 1) by omega)]
        split <;> omega
    refine ⟨f2, g2, i2, ?_, by omega, fun _ => ?_, by omega, fun p => ?_⟩
    · rcases Int.lt_or_le y g with q | q
      · have := c1 q; omega
      · have := c2 q; omega
    · cases k with
      | zero =>
        -- y itself is reached
        have : y ≤ en (b.1 + 1) f1 g1 := by
          unfold en
          rcases Int.lt_trichotomy y g with q | q | q
          · have := c1 q
            split <;> omega
          · have := c2 (by omega)
            split
            · omega
            · omega
          · have := c2 (by omega)
            have := c4 q
            rw [if_pos (show g1 < f1 + (b.1 + 1) by omega)]
            omega
        have := a2
        omega
      | succ k =>
        have := a3 (by omega)
        omega
    · have x1 := le1 p
      have x2 := le2 p
      rw [S_left]
      show T (Ph p) b.1 f g + (ph p y + S (Ph p) (y + 1) k) ≤ _
      omega

theorem T_split {b : P2} {f g : Int} (h : Is b f g) (φ : Int → Int) : T φ b.1 f g = S φ f (g - f).toNat + S φ (g + 1) (f + b.1 - g).toNat := by
  obtain ⟨hp, lo, hi, _⟩ := h
  unfold T
  have e : (b.1 + 1).toNat = (g - f).toNat + ((f + b.1 - g).toNat + 1) := by omega
  rw [e, S_add, S_left, show f + ((g - f).toNat : Int) = g by omega]
  omega
theorem T_id {b : P2} {f g : Int} (h : Is b f g) : T (fun x => x) b.1 f g = b.2 := by
  obtain ⟨hp, lo, hi, sm⟩ := h
  unfold T
  have := S_id f (b.1 + 1).toNat
  have e : ((b.1 + 1).toNat : Int) = b.1 + 1 := by omega
  rw [e] at this
  grind
theorem T_one {b : P2} {f g : Int} (h : Is b f g) : T (fun _ => 1) b.1 f g = b.1 := by
  have := h.pos
  show S (fun _ => 1) f (b.1 + 1).toNat - 1 = b.1
  rw [S_one]
  omega
theorem bAdd_comm (a b : P2) : bAdd a b = bAdd b a := by
  unfold bAdd
  rw [Int.add_comm a.1, Int.add_comm a.2]
theorem merge_lr {a b : P2} {fa ga fb gb : Int} (ha : Is a fa ga) (hb : Is b fb gb) (h1 : fa ≤ fb) (h2 : fb ≤ en a.1 fa ga) :
    ∃ f g, Is (bAdd a b) f g ∧ f ≤ fa ∧ en a.1 fa ga ≤ en (bAdd a b).1 f g ∧ en b.1 fb gb ≤ en (bAdd a b).1 f g ∧ ∀ p, T (Ph p) a.1 fa ga + T (Ph p) b.1 fb gb ≤ T (Ph p) (bAdd a b).1 f g := by
  have lb := hb.lo
  have ub := hb.hi
  have pb := hb.pos
  have la := ha.lo
  have ua := ha.hi
  have h3 : fb ≤ fa + a.1 + 0 := by
    unfold en at h2
    split at h2 <;> omega
  obtain ⟨f1, g1, i1, a1, a2, a3, a4, le1⟩ := add_run (w := 0) (.inl rfl) (gb - fb).toNat ha h1 h3
  have a3 := a3 (by omega)
  obtain ⟨f2, g2, i2, c1, c2, c3, c4, le2⟩ := add_run (w := 1) (.inr rfl) (fb + b.1 - gb).toNat (y := gb + 1) i1 (by omega) (by show gb + 1 ≤ f1 + (a.1 + ((gb - fb).toNat : Int)) + 1; omega)
  simp only at i2 c1 c2 c3 c4 le2
  have e1 : a.1 + ((gb - fb).toNat : Int) + ((fb + b.1 - gb).toNat : Int) = a.1 + b.1 := by omega
  have ti := T_split hb (fun x => x)
  rw [T_id hb] at ti
  have e2 : a.2 + S (fun x => x) fb (gb - fb).toNat + S (fun x => x) (gb + 1) (fb + b.1 - gb).toNat = a.2 + b.2 := by omega
  rw [e1, e2] at i2
  rw [e1] at c2 c3 c4 le2
  refine ⟨f2, g2, i2, by omega, ?_, ?_, fun p => ?_⟩
  · show _ ≤ en (a.1 + b.1) f2 g2
    omega
  · show _ ≤ en (a.1 + b.1) f2 g2
    unfold en at a3 ⊢
    by_cases z : gb < fb + b.1
    · have := c3 (by omega)
      unfold en at this
      rw [if_pos z]
      omega
    · unfold en at c2
      rw [if_neg z]
      omega
  · have x1 := le1 p
    have x2 := le2 p
    rw [T_split hb]
    show _ ≤ T (Ph p) (a.1 + b.1) f2 g2
    omega
/-- two blocks that meet -/
theorem merge_any {a b : P2} {fa ga fb gb : Int} (ha : Is a fa ga) (hb : Is b fb gb) (h1 : fa ≤ en b.1 fb gb) (h2 : fb ≤ en a.1 fa ga) :
    ∃ f g, Is (bAdd a b) f g ∧ f ≤ fa ∧ f ≤ fb ∧ en a.1 fa ga ≤ en (bAdd a b).1 f g ∧ en b.1 fb gb ≤ en (bAdd a b).1 f g ∧ ∀ p, T (Ph p) a.1 fa ga + T (Ph p) b.1 fb gb ≤ T (Ph p) (bAdd a b).1 f g := by
  rcases Int.le_total fa fb with q | q
  · obtain ⟨f, g, i, z1, z2, z3, z4⟩ := merge_lr ha hb q h2
    exact ⟨f, g, i, z1, by omega, z2, z3, z4⟩
  · obtain ⟨f, g, i, z1, z2, z3, z4⟩ := merge_lr hb ha q h1
    rw [bAdd_comm b a] at i z2 z3 z4
    exact ⟨f, g, i, by omega, z1, z3, z2, fun p => by have := z4 p; omega⟩
/-- the same by the program's words -/
theorem merge {a b : P2} (pa : 0 < a.1) (pb : 0 < b.1) (h1 : bFirst a ≤ bEnd b) (h2 : bFirst b ≤ bEnd a) :
    0 < (bAdd a b).1 ∧ bFirst (bAdd a b) ≤ bFirst a ∧ bFirst (bAdd a b) ≤ bFirst b ∧ bEnd a ≤ bEnd (bAdd a b) ∧ bEnd b ≤ bEnd (bAdd a b) ∧ ∀ p, BT (Ph p) a + BT (Ph p) b ≤ BT (Ph p) (bAdd a b) := by
  have ia := is_of pa
  have ib := is_of pb
  rw [bEnd_is ib] at h1
  rw [bEnd_is ia] at h2
  obtain ⟨f, g, i, z1, z2, z3, z4, z5⟩ := merge_any ia ib h1 h2
  obtain ⟨e1, e2⟩ := i.uniq
  rw [bEnd_is ia, bEnd_is ib, bEnd_is i, e1]
  refine ⟨i.pos, z1, z2, z3, z4, fun p => ?_⟩
  rw [BT_is ia, BT_is ib, BT_is i]
  exact z5 p
/-- one heap -/
theorem heap_block (p : Int) : ∀ k : Nat, ∃ f g, Is ((k : Int) + 1, ((k : Int) + 1) * p) f g ∧ f ≤ p ∧ p ≤ en ((k : Int) + 1) f g ∧ ∀ q, ((k : Int) + 1) * ph q p ≤ T (Ph q) ((k : Int) + 1) f g
  | 0 => ⟨p, p + 1, ⟨by show (0 : Int) < 0 + 1; omega, by omega, by show p + 1 ≤ p + (0 + 1); omega, by show 2 * ((0 + 1) * p) = _; grind⟩, by omega, by unfold en; split <;> omega, fun q => by
      unfold T
      show (0 + 1) * ph q p ≤ S (Ph q) p 2 - ph q (p + 1)
      simp [S, Ph]⟩
  | k + 1 => by
    obtain ⟨f, g, i, h1, h2, h3⟩ := heap_block p k
    have l2 := i.hi
    obtain ⟨f', g', i', a1, a2, a3, _, a5⟩ := add_run (w := 0) (.inl rfl) 1 i h1 (by
      unfold en at h2
      simp only at l2 ⊢
      split at h2 <;> omega)
    have eS : S (fun x => x) p 1 = p := by simp [S]
    have e1 : ((k + 1 : Nat) : Int) = (k : Int) + ((1 : Nat) : Int) := by omega
    have e2 : ((k : Int) + 1) * p + p = ((k : Int) + 1 + 1) * p := by grind
    rw [eS] at i'
    simp only [e2] at i'
    refine ⟨f', g', i', by omega, ?_, fun q => ?_⟩
    · have := a3 (by omega)
      have e : p + ((1 : Nat) : Int) - 1 = p := by omega
      rw [e] at this
      exact this
    · have x := h3 q
      have y := a5 q
      have eq : S (Ph q) p 1 = ph q p := by simp [S, Ph]
      rw [eq] at y
      have e3 : ((k : Int) + ((1 : Nat) : Int) + 1) * ph q p = ((k : Int) + 1) * ph q p + ph q p := by
        have e4 : ((1 : Nat) : Int) = 1 := rfl
        rw [e4]
        grind
      rw [e1, e3]
      refine Int.le_trans (Int.add_le_add_right x _) ?_
      exact y
theorem heap_one {n p : Int} (h : 0 < n) : bFirst (n, n * p) ≤ p ∧ p ≤ bEnd (n, n * p) ∧ ∀ q, n * ph q p ≤ BT (Ph q) (n, n * p) := by
  obtain ⟨k, rfl⟩ : ∃ k : Nat, n = (k : Int) + 1 := ⟨(n - 1).toNat, by omega⟩
  obtain ⟨f, g, i, h1, h2, h3⟩ := heap_block p k
  obtain ⟨e1, e2⟩ := i.uniq
  rw [bEnd_is i, e1]
  refine ⟨h1, h2, fun q => ?_⟩
  rw [BT_is i]
  exact h3 q
end Mth

set_option Elab.async false
namespace Mth
theorem S_right {q f : Int} : ∀ {m : Nat}, f + m - 1 ≤ q → S (Ph q) f m = q * m - S (fun x => x) f m
  | 0, _ => by simp [S]
  | m + 1, h => by
    have ih := S_right (q := q) (f := f) (m := m) (by omega)
    show S (Ph q) f m + ph q (f + m) = q * ((m + 1 : Nat) : Int) - (S (fun x => x) f m + (f + m))
    rw [ih]
    have e : ((m + 1 : Nat) : Int) = (m : Int) + 1 := by omega
    have e2 : ph q (f + m) = q - (f + m) := by unfold ph; split <;> omega
    rw [e, e2]
    grind
theorem S_leftz {q f : Int} (h : q ≤ f) : ∀ {m : Nat}, S (Ph q) f m = 0
  | 0 => rfl
  | m + 1 => by
    show S (Ph q) f m + ph q (f + m) = 0
    rw [S_leftz h]
    unfold ph
    split <;> omega
theorem BT_left {b : P2} {q : Int} (h : 0 < b.1) (hq : q ≤ bFirst b) : BT (Ph q) b = 0 := by
  have i := is_of h
  rw [BT_is i, T_split i, S_leftz hq, S_leftz (by have := i.lo; omega)]
  rfl
theorem BT_right {b : P2} {q : Int} (h : 0 < b.1) (hq : bEnd b ≤ q) : BT (Ph q) b = q * b.1 - b.2 := by
  have i := is_of h
  have l1 := i.lo
  have l2 := i.hi
  rw [bEnd_is i] at hq
  rw [BT_is i, T_split i]
  have ti := T_split i (fun x => x)
  rw [T_id i] at ti
  have t1 := T_split i (fun _ => 1)
  rw [T_one i, S_one, S_one] at t1
  unfold en at hq
  rw [S_right (by split at hq <;> omega)]
  have e2 : S (Ph q) (bGap b + 1) (bFirst b + b.1 - bGap b).toNat = q * ((bFirst b + b.1 - bGap b).toNat : Int) - S (fun x => x) (bGap b + 1) (bFirst b + b.1 - bGap b).toNat := by
    by_cases z : bGap b < bFirst b + b.1
    · rw [if_pos z] at hq
      exact S_right (by omega)
    · rw [show (bFirst b + b.1 - bGap b).toNat = 0 by omega]
      simp [S]
  rw [e2, ti]
  generalize (bGap b - bFirst b).toNat = m1 at *
  generalize (bFirst b + b.1 - bGap b).toNat = m2 at *
  rw [t1]
  grind
theorem bFirst_le_end {b : P2} (h : 0 < b.1) : bFirst b ≤ bEnd b := by
  obtain ⟨h1, h2⟩ := bGap_bounds h
  unfold bEnd
  split <;> omega
/-- q lies not inside of b -/
def Out (q : Int) (b : P2) : Prop := q ≤ bFirst b ∨ bEnd b ≤ q
theorem BT_out {a b c : P2} {q : Int} (ha : 0 < a.1) (hb : 0 < b.1) (hc : c = bAdd a b) (h1 : bFirst c ≤ bFirst a) (h2 : bFirst c ≤ bFirst b) (h3 : bEnd a ≤ bEnd c) (h4 : bEnd b ≤ bEnd c) (o : Out q c) : BT (Ph q) c = BT (Ph q) a + BT (Ph q) b := by
  subst hc
  have pc : 0 < (bAdd a b).1 := by show 0 < a.1 + b.1; omega
  rcases o with o | o
  · rw [BT_left pc o, BT_left ha (by omega), BT_left hb (by omega)]; rfl
  · rw [BT_right pc o, BT_right ha (by omega), BT_right hb (by omega)]
    show q * (a.1 + b.1) - (a.2 + b.2) = _
    grind
/-! ### the stack -/
def sm (F : P2 → Int) (l : List P2) : Int := (l.map F).sum
theorem sm_nil (F : P2 → Int) : sm F [] = 0 := rfl
theorem sm_cons (F : P2 → Int) (a : P2) (l : List P2) : sm F (a :: l) = F a + sm F l := by unfold sm; rw [List.map_cons, List.sum_cons]
theorem sm_append (F : P2 → Int) (l m : List P2) : sm F (l ++ m) = sm F l + sm F m := by unfold sm; rw [List.map_append, List.sum_append]
theorem sm_perm (F : P2 → Int) {l m : List P2} (h : l.Perm m) : sm F l = sm F m := by
  induction h with
  | nil => rfl
  | cons x _ ih => rw [sm_cons, sm_cons, ih]
  | swap x y l => rw [sm_cons, sm_cons, sm_cons, sm_cons]; omega
  | trans _ _ h1 h2 => exact h1.trans h2
structure Stk (st : List P2) (pm : Int) : Prop where
  pos : ∀ b ∈ st, 0 < b.1
  sep : st.Pairwise fun a b => bEnd b < bFirst a
  fst : ∀ b ∈ st, bFirst b ≤ pm
theorem push_ok : ∀ {st : List P2} {b : P2} {pm : Int}, Stk st pm → 0 < b.1 → bFirst b ≤ pm → (∀ a ∈ st, bFirst a ≤ bEnd b) →
    Stk (push st b) pm ∧ sm (·.1) (push st b) = sm (·.1) st + b.1 ∧ sm (·.2) (push st b) = sm (·.2) st + b.2 ∧ (∀ q, sm (BT (Ph q)) st + BT (Ph q) b ≤ sm (BT (Ph q)) (push st b)) ∧
    (∀ a, a = b ∨ a ∈ st → ∃ c ∈ push st b, bFirst c ≤ bFirst a ∧ bEnd a ≤ bEnd c) ∧ (∀ q, (∀ c ∈ push st b, Out q c) → sm (BT (Ph q)) (push st b) = sm (BT (Ph q)) st + BT (Ph q) b)
  | [], b, pm, s, hb, hf, _ => by
    refine ⟨⟨fun c hc => ?_, List.pairwise_singleton _ _, fun c hc => ?_⟩, ?_, ?_, fun q => ?_, fun a ha => ?_, fun q _ => ?_⟩
    · rcases List.mem_singleton.mp hc with rfl; exact hb
    · rcases List.mem_singleton.mp hc with rfl; exact hf
    · show sm (·.1) [b] = _; rw [sm_cons, sm_nil]; omega
    · show sm (·.2) [b] = _; rw [sm_cons, sm_nil]; omega
    · show _ ≤ sm _ [b]; rw [sm_cons, sm_nil]; omega
    · rcases ha with rfl | ha
      · exact ⟨a, List.mem_singleton.mpr rfl, by omega, by omega⟩
      · exact nomatch ha
    · show sm _ [b] = _; rw [sm_cons, sm_nil]; omega
  | a :: r, b, pm, s, hb, hf, hx => by
    obtain ⟨p1, p2, p3⟩ := s
    obtain ⟨q1, q2⟩ := List.pairwise_cons.mp p2
    have pa := p1 a List.mem_cons_self
    unfold push
    split
    · rename_i hm
      obtain ⟨m1, m2, m3, m4, m5, m6⟩ := merge pa hb (hx a List.mem_cons_self) hm
      have fa := p3 a List.mem_cons_self
      obtain ⟨i1, i2, i3, i4, i5, i6⟩ := push_ok (st := r) (b := bAdd a b) (pm := pm) ⟨fun c hc => p1 c (List.mem_cons_of_mem _ hc), q2, fun c hc => p3 c (List.mem_cons_of_mem _ hc)⟩ m1 (by omega) (fun c hc => by
        have := q1 c hc
        have := bFirst_le_end (p1 c (List.mem_cons_of_mem _ hc))
        have := bFirst_le_end pa
        omega)
      refine ⟨i1, ?_, ?_, fun q => ?_, fun c hc => ?_, fun q hq => ?_⟩
      · rw [i2, sm_cons]
        show sm (·.1) r + (a.1 + b.1) = a.1 + sm (·.1) r + b.1
        omega
      · rw [i3, sm_cons]
        show sm (·.2) r + (a.2 + b.2) = a.2 + sm (·.2) r + b.2
        omega
      · have := i4 q
        have := m6 q
        rw [sm_cons]
        omega
      · obtain ⟨d, d1, d2, d3⟩ := i5 (bAdd a b) (.inl rfl)
        rcases hc with rfl | hc
        · exact ⟨d, d1, by omega, by omega⟩
        · rcases List.mem_cons.mp hc with rfl | hc
          · exact ⟨d, d1, by omega, by omega⟩
          · exact i5 c (.inr hc)
      · obtain ⟨d, d1, d2, d3⟩ := i5 (bAdd a b) (.inl rfl)
        have o : Out q (bAdd a b) := by
          rcases hq d d1 with z | z
          · exact .inl (by omega)
          · exact .inr (by omega)
        rw [i6 q hq, sm_cons, BT_out pa hb rfl m2 m3 m4 m5 o]
        omega
    · rename_i hm
      refine ⟨⟨fun c hc => ?_, List.pairwise_cons.mpr ⟨fun c hc => ?_, p2⟩, fun c hc => ?_⟩, ?_, ?_, fun q => ?_, fun c hc => ?_, fun q _ => ?_⟩
      · rcases List.mem_cons.mp hc with rfl | hc
        · exact hb
        · exact p1 c hc
      · rcases List.mem_cons.mp hc with rfl | hc
        · omega
        · have := q1 c hc
          have := bFirst_le_end pa
          omega
      · rcases List.mem_cons.mp hc with rfl | hc
        · exact hf
        · exact p3 c hc
      · rw [sm_cons]; omega
      · rw [sm_cons]; omega
      · rw [sm_cons (BT (Ph q)) b]; omega
      · refine ⟨c, ?_, by omega, by omega⟩
        rcases hc with rfl | hc
        · exact List.mem_cons_self
        · exact List.mem_cons_of_mem _ hc
      · rw [sm_cons (BT (Ph q)) b]; omega
/-- what heaps weigh -/
def hp (φ : Int → Int) (h : P2) : Int := h.2 * φ h.1
structure Stk2 (st hs : List P2) (pm : Int) : Prop where
  ok : Stk st pm
  cnt : sm (·.1) st = sm (·.2) hs
  tot : sm (·.2) st = sm (fun h => h.2 * h.1) hs
  le : ∀ q, sm (hp (Ph q)) hs ≤ sm (BT (Ph q)) st
  out : ∀ q, (∀ c ∈ st, Out q c) → sm (BT (Ph q)) st = sm (hp (Ph q)) hs
  cov : ∀ h ∈ hs, 0 < h.2 → ∃ c ∈ st, bFirst c ≤ h.1 ∧ h.1 ≤ bEnd c
theorem pushH_ok {st hs : List P2} {pm : Int} {h : P2} (s : Stk2 st hs pm) (h0 : 0 ≤ h.2) (hp1 : pm ≤ h.1) : Stk2 (pushH st h) (hs ++ [h]) h.1 := by
  obtain ⟨⟨p1, p2, p3⟩, c1, c2, c3, c4, c5⟩ := s
  have ok' : Stk st h.1 := ⟨p1, p2, fun b hb => by have := p3 b hb; omega⟩
  unfold pushH
  split
  · rename_i hc
    obtain ⟨z1, z2, z3⟩ := heap_one (p := h.1) hc
    obtain ⟨i1, i2, i3, i4, i5, i6⟩ := push_ok (b := (h.2, h.2 * h.1)) ok' hc z1 (fun a ha => by have := p3 a ha; omega)
    refine ⟨i1, ?_, ?_, fun q => ?_, fun q hq => ?_, fun k hk pk => ?_⟩
    · rw [i2, sm_append, sm_cons, sm_nil, c1]; simp
    · rw [i3, sm_append, sm_cons, sm_nil, c2]; simp
    · have := i4 q
      have := c3 q
      have := z3 q
      rw [sm_append, sm_cons, sm_nil]
      show _ + (h.2 * ph q h.1 + 0) ≤ _
      omega
    · rw [i6 q hq, sm_append, sm_cons, sm_nil, c4 q fun c hc => ?_]
      · obtain ⟨d, d1, d2, d3⟩ := i5 _ (.inl rfl)
        show _ + BT (Ph q) (h.2, h.2 * h.1) = _ + (h.2 * ph q h.1 + 0)
        rcases hq d d1 with z | z
        · rw [BT_left hc (by omega)]
          have : ph q h.1 = 0 := by unfold ph; split <;> omega
          rw [this]; simp
        · rw [BT_right hc (by omega)]
          have : ph q h.1 = q - h.1 := by unfold ph; split <;> omega
          rw [this]
          show sm (hp (Ph q)) hs + (q * h.2 - h.2 * h.1) = _
          grind
      · obtain ⟨d, d1, d2, d3⟩ := i5 c (.inr hc)
        rcases hq d d1 with z | z
        · exact .inl (by omega)
        · exact .inr (by omega)
    · rcases List.mem_append.mp hk with hk | hk
      · obtain ⟨c, e1, e2, e3⟩ := c5 k hk pk
        obtain ⟨d, d1, d2, d3⟩ := i5 c (.inr e1)
        exact ⟨d, d1, by omega, by omega⟩
      · rcases List.mem_singleton.mp hk with rfl
        obtain ⟨d, d1, d2, d3⟩ := i5 _ (.inl rfl)
        exact ⟨d, d1, by omega, by omega⟩
  · have e : h.2 = 0 := by omega
    refine ⟨ok', ?_, ?_, fun q => ?_, fun q hq => ?_, fun k hk pk => ?_⟩
    · rw [sm_append, sm_cons, sm_nil, c1, e]; simp
    · rw [sm_append, sm_cons, sm_nil, c2, e]; simp
    · have := c3 q
      rw [sm_append, sm_cons, sm_nil]
      show _ + (h.2 * ph q h.1 + 0) ≤ _
      rw [e]; simp; omega
    · rw [c4 q hq, sm_append, sm_cons, sm_nil]
      show _ = _ + (h.2 * ph q h.1 + 0)
      rw [e]; simp
    · rcases List.mem_append.mp hk with hk | hk
      · exact c5 k hk pk
      · rcases List.mem_singleton.mp hk with rfl
        omega
theorem foldl_ok : ∀ {l st hs : List P2} {pm : Int}, Stk2 st hs pm → (∀ h ∈ l, 0 ≤ h.2) → (∀ h ∈ l, pm ≤ h.1) → Sd l → ∃ pm', Stk2 (l.foldl pushH st) (hs ++ l) pm'
  | [], st, hs, pm, s, _, _, _ => ⟨pm, by rw [List.append_nil]; exact s⟩
  | x :: r, st, hs, pm, s, h0, h1, sd => by
    obtain ⟨s1, s2⟩ := List.pairwise_cons.mp sd
    have := pushH_ok s (h0 x List.mem_cons_self) (h1 x List.mem_cons_self)
    obtain ⟨pm', z⟩ := foldl_ok this (fun h hh => h0 h (List.mem_cons_of_mem _ hh)) (fun h hh => by
      have := s1 h hh
      unfold leP at this
      simp only [Bool.or_eq_true, Bool.and_eq_true, decide_eq_true_eq] at this
      omega) s2
    rw [List.append_assoc] at z
    exact ⟨pm', z⟩
/-- heaps as they may be told -/
def Ok (hs : List P2) : Prop := ∀ h ∈ hs, 0 ≤ h.2
theorem Ok.perm {l m : List P2} (h : Ok l) (p : m.Perm l) : Ok m := fun x hx => h x (p.mem_iff.mp hx)
theorem stack_ok {hs : List P2} (h : Ok hs) : ∃ pm, Stk2 (stack hs) hs pm := by
  have hs' : Ok (sortP hs) := h.perm (sortP_perm hs)
  have bound : ∃ pm, ∀ x ∈ sortP hs, pm ≤ x.1 := by
    cases e : sortP hs with
    | nil => exact ⟨0, fun x hx => nomatch hx⟩
    | cons a r =>
      refine ⟨a.1, fun x hx => ?_⟩
      have sd := sortP_sd hs
      rw [e] at sd
      obtain ⟨s1, _⟩ := List.pairwise_cons.mp sd
      rcases List.mem_cons.mp hx with rfl | hx
      · omega
      · have := s1 x hx
        unfold leP at this
        simp only [Bool.or_eq_true, Bool.and_eq_true, decide_eq_true_eq] at this
        omega
  obtain ⟨pm, hpm⟩ := bound
  have s0 : Stk2 [] [] pm := ⟨⟨(fun _ h => nomatch h), List.Pairwise.nil, (fun _ h => nomatch h)⟩, rfl, rfl, (fun _ => Int.le_refl _), (fun _ _ => rfl), (fun _ h => nomatch h)⟩
  obtain ⟨pm', c0, c1, c2, c3, c4, c5⟩ := foldl_ok s0 hs' hpm (sortP_sd hs)
  rw [List.nil_append] at c1 c2 c3 c4 c5
  have p := sortP_perm hs
  refine ⟨pm', c0, ?_, ?_, fun q => ?_, fun q hq => ?_, fun k hk => ?_⟩
  · rw [← sm_perm _ p]; exact c1
  · rw [← sm_perm _ p]; exact c2
  · rw [← sm_perm _ p]; exact c3 q
  · rw [← sm_perm _ p]; exact c4 q hq
  · exact c5 k (p.mem_iff.mpr hk)
end Mth

set_option Elab.async false
namespace Mth
/-! ### stretches: sums over them, which places they have -/
def ov (φ : Int → Int) (p : P2) : Int := S φ p.1 (p.2 - p.1 + 1).toNat
theorem ov_parts {b : P2} (h : 0 < b.1) (φ : Int → Int) : sm (ov φ) (bParts b) = BT φ b := by
  have i := is_of h
  have l1 := i.lo
  have l2 := i.hi
  rw [BT_is i, T_split i]
  unfold bParts bLast
  split
  · rename_i c
    rw [sm_cons, sm_cons, sm_nil]
    unfold ov
    simp only
    rw [show bGap b - 1 - bFirst b + 1 = bGap b - bFirst b by omega, show bFirst b + b.1 - (bGap b + 1) + 1 = bFirst b + b.1 - bGap b by omega]
    omega
  · rename_i c
    rw [sm_cons, sm_nil]
    unfold ov
    simp only
    rw [show bGap b - 1 - bFirst b + 1 = bGap b - bFirst b by omega, show (bFirst b + b.1 - bGap b).toNat = 0 by omega]
    simp [S]
/-- in their turn, none empty -/
structure Tn (ps : List P2) : Prop where
  ne : ∀ p ∈ ps, p.1 ≤ p.2
  up : ps.Pairwise fun a b => a.2 < b.1
/-- and with a place between -/
structure Can (ps : List P2) : Prop where
  ne : ∀ p ∈ ps, p.1 ≤ p.2
  up : ps.Pairwise fun a b => a.2 + 1 < b.1
theorem parts_in {b p : P2} (h : 0 < b.1) (hp : p ∈ bParts b) : bFirst b ≤ p.1 ∧ p.1 ≤ p.2 ∧ p.2 ≤ bEnd b := by
  obtain ⟨h1, h2⟩ := bGap_bounds h
  unfold bParts at hp
  unfold bEnd
  split at hp
  · rename_i c
    rw [if_pos c]
    rcases List.mem_cons.mp hp with rfl | hp
    · simp only; omega
    · rcases List.mem_singleton.mp hp with rfl
      simp only; omega
  · rename_i c
    rw [if_neg c]
    rcases List.mem_singleton.mp hp with rfl
    simp only; omega
theorem parts_tn {b : P2} (h : 0 < b.1) : Tn (bParts b) := by
  refine ⟨fun p hp => (parts_in h hp).2.1, ?_⟩
  unfold bParts
  split
  · refine List.pairwise_cons.mpr ⟨fun q hq => ?_, List.pairwise_singleton _ _⟩
    rcases List.mem_singleton.mp hq with rfl
    simp only; omega
  · exact List.pairwise_singleton _ _
theorem flat_tn : ∀ {bs : List P2}, (∀ b ∈ bs, 0 < b.1) → (bs.Pairwise fun a b => bEnd a < bFirst b) → Tn (bs.flatMap bParts)
  | [], _, _ => ⟨(fun _ h => nomatch h), List.Pairwise.nil⟩
  | b :: r, h, hp => by
    obtain ⟨s1, s2⟩ := List.pairwise_cons.mp hp
    have hb := h b List.mem_cons_self
    obtain ⟨a1, a2⟩ := parts_tn hb
    obtain ⟨r1, r2⟩ := flat_tn (bs := r) (fun c hc => h c (List.mem_cons_of_mem _ hc)) s2
    rw [List.flatMap_cons]
    refine ⟨fun p hp => ?_, List.pairwise_append.mpr ⟨a2, r2, fun p hp q hq => ?_⟩⟩
    · rcases List.mem_append.mp hp with hp | hp
      · exact a1 p hp
      · exact r1 p hp
    · obtain ⟨c, hc, hq⟩ := List.mem_flatMap.mp hq
      have x1 := parts_in hb hp
      have x2 := parts_in (h c (List.mem_cons_of_mem _ hc)) hq
      have x3 := s1 c hc
      omega
theorem ov_flat (φ : Int → Int) : ∀ {bs : List P2}, (∀ b ∈ bs, 0 < b.1) → sm (ov φ) (bs.flatMap bParts) = sm (BT φ) bs
  | [], _ => rfl
  | b :: r, h => by
    rw [List.flatMap_cons, sm_append, sm_cons, ov_parts (h b List.mem_cons_self), ov_flat φ fun c hc => h c (List.mem_cons_of_mem _ hc)]
/-- joined, the last first -/
structure CanR (J : List P2) : Prop where
  ne : ∀ p ∈ J, p.1 ≤ p.2
  up : J.Pairwise fun a b => b.2 + 1 < a.1
theorem join1_ok {J : List P2} {p : P2} (h : CanR J) (hp : p.1 ≤ p.2) (hl : ∀ q ∈ J, q.2 < p.1) : CanR (join1 J p) ∧ (∀ q ∈ join1 J p, q.2 ≤ p.2) ∧ ∀ φ, sm (ov φ) (join1 J p) = sm (ov φ) J + ov φ p := by
  cases J with
  | nil =>
    refine ⟨⟨fun q hq => ?_, List.pairwise_singleton _ _⟩, fun q hq => ?_, fun φ => ?_⟩
    · rcases List.mem_singleton.mp hq with rfl; exact hp
    · rcases List.mem_singleton.mp hq with rfl; exact Int.le_refl _
    · show sm (ov φ) [p] = _
      rw [sm_cons, sm_nil]; omega
  | cons q r =>
    obtain ⟨n1, u1⟩ := h
    obtain ⟨v1, v2⟩ := List.pairwise_cons.mp u1
    have hq := n1 q List.mem_cons_self
    have hqp := hl q List.mem_cons_self
    rw [show join1 (q :: r) p = if q.2 + 1 = p.1 then (q.1, p.2) :: r else p :: q :: r from rfl]
    split
    · rename_i c
      refine ⟨⟨fun z hz => ?_, List.pairwise_cons.mpr ⟨fun z hz => v1 z hz, v2⟩⟩, fun z hz => ?_, fun φ => ?_⟩
      · rcases List.mem_cons.mp hz with rfl | hz
        · show q.1 ≤ p.2; omega
        · exact n1 z (List.mem_cons_of_mem _ hz)
      · rcases List.mem_cons.mp hz with rfl | hz
        · exact Int.le_refl _
        · have := hl z (List.mem_cons_of_mem _ hz); omega
      · rw [sm_cons, sm_cons]
        have e : ov φ (q.1, p.2) = ov φ q + ov φ p := by
          unfold ov
          simp only
          rw [show (p.2 - q.1 + 1).toNat = (q.2 - q.1 + 1).toNat + (p.2 - p.1 + 1).toNat by omega, S_add, show q.1 + ((q.2 - q.1 + 1).toNat : Int) = p.1 by omega]
        rw [e]; omega
    · rename_i c
      refine ⟨⟨fun z hz => ?_, List.pairwise_cons.mpr ⟨fun z hz => ?_, u1⟩⟩, fun z hz => ?_, fun φ => ?_⟩
      · rcases List.mem_cons.mp hz with rfl | hz
        · exact hp
        · exact n1 z hz
      · rcases List.mem_cons.mp hz with rfl | hz
        · omega
        · have := v1 z hz; omega
      · rcases List.mem_cons.mp hz with rfl | hz
        · exact Int.le_refl _
        · have := hl z hz; omega
      · rw [sm_cons]; omega
theorem joins_ok : ∀ {ps J : List P2}, CanR J → Tn ps → (∀ q ∈ J, ∀ p ∈ ps, q.2 < p.1) → CanR (ps.foldl join1 J) ∧ ∀ φ, sm (ov φ) (ps.foldl join1 J) = sm (ov φ) J + sm (ov φ) ps
  | [], J, h, _, _ => ⟨h, fun φ => by rw [sm_nil]; show sm (ov φ) J = _; omega⟩
  | p :: r, J, h, t, hl => by
    obtain ⟨n1, u1⟩ := t
    obtain ⟨v1, v2⟩ := List.pairwise_cons.mp u1
    obtain ⟨j1, j2, j3⟩ := join1_ok h (n1 p List.mem_cons_self) fun q hq => hl q hq p List.mem_cons_self
    obtain ⟨k1, k2⟩ := joins_ok (ps := r) (J := join1 J p) j1 ⟨fun z hz => n1 z (List.mem_cons_of_mem _ hz), v2⟩ fun q hq z hz => by
      have := j2 q hq
      have := v1 z hz
      omega
    refine ⟨k1, fun φ => ?_⟩
    rw [List.foldl_cons, k2, j3, sm_cons]; omega
theorem sm_rev (F : P2 → Int) (l : List P2) : sm F l.reverse = sm F l := sm_perm F (List.reverse_perm l)
theorem stretches_ok {hs : List P2} (h : Ok hs) : Can (stretches hs) ∧ ∀ φ, sm (ov φ) (stretches hs) = sm (BT φ) (stack hs) := by
  obtain ⟨pm, s⟩ := stack_ok h
  have pos : ∀ b ∈ (stack hs).reverse, 0 < b.1 := fun b hb => s.ok.pos b (List.mem_reverse.mp hb)
  have sep : (stack hs).reverse.Pairwise fun a b => bEnd a < bFirst b := List.pairwise_reverse.mpr s.ok.sep
  obtain ⟨j1, j2⟩ := joins_ok (ps := (stack hs).reverse.flatMap bParts) (J := []) ⟨(fun _ h => nomatch h), List.Pairwise.nil⟩ (flat_tn pos sep) (fun _ h => nomatch h)
  refine ⟨⟨fun p hp => j1.ne p (List.mem_reverse.mp hp), List.pairwise_reverse.mpr j1.up⟩, fun φ => ?_⟩
  unfold stretches
  rw [sm_rev]
  show sm (ov φ) (joins _) = _
  unfold joins
  rw [j2, ov_flat φ pos, sm_rev, sm_nil, Int.zero_add]
theorem ov_one {p : P2} (h : p.1 ≤ p.2) : ov (fun _ => 1) p = p.2 - p.1 + 1 := by unfold ov; rw [S_one]; omega
theorem ov_id {p : P2} (h : p.1 ≤ p.2) : 2 * ov (fun x => x) p = (p.1 + p.2) * (p.2 - p.1 + 1) := by
  unfold ov
  rw [S_id]
  have e : ((p.2 - p.1 + 1).toNat : Int) = p.2 - p.1 + 1 := by omega
  rw [e]
  grind
theorem sm_congr {F G : P2 → Int} : ∀ {l : List P2}, (∀ p ∈ l, F p = G p) → sm F l = sm G l
  | [], _ => rfl
  | x :: r, h => by rw [sm_cons, sm_cons, h x List.mem_cons_self, sm_congr fun p hp => h p (List.mem_cons_of_mem _ hp)]
theorem sm_scale (k : Int) (F : P2 → Int) : ∀ l : List P2, sm (fun p => k * F p) l = k * sm F l
  | [] => by simp [sm]
  | x :: r => by rw [sm_cons, sm_cons, sm_scale k F r, Int.mul_add]
theorem sm_addF (F G : P2 → Int) : ∀ l : List P2, sm (fun p => F p + G p) l = sm F l + sm G l
  | [] => rfl
  | x :: r => by rw [sm_cons, sm_cons, sm_cons, sm_addF F G r]; omega
theorem BT_one {b : P2} (h : 0 < b.1) : BT (fun _ => 1) b = b.1 := by rw [BT_is (is_of h), T_one (is_of h)]
theorem BT_id {b : P2} (h : 0 < b.1) : BT (fun x => x) b = b.2 := by rw [BT_is (is_of h), T_id (is_of h)]
theorem stretch_count {hs : List P2} (h : Ok hs) : sm (fun p => p.2 - p.1 + 1) (stretches hs) = sm (·.2) hs := by
  obtain ⟨c, e⟩ := stretches_ok h
  obtain ⟨pm, s⟩ := stack_ok h
  rw [← sm_congr (F := ov fun _ => 1) fun p hp => ov_one (c.ne p hp), e, sm_congr (G := (·.1)) fun b hb => BT_one (s.ok.pos b hb), s.cnt]
theorem stretch_total {hs : List P2} (h : Ok hs) : sm (fun p => (p.1 + p.2) * (p.2 - p.1 + 1)) (stretches hs) = 2 * sm (fun h => h.1 * h.2) hs := by
  obtain ⟨c, e⟩ := stretches_ok h
  obtain ⟨pm, s⟩ := stack_ok h
  rw [← sm_congr (F := fun p => 2 * ov (fun x => x) p) fun p hp => ov_id (c.ne p hp), sm_scale, e, sm_congr (F := BT fun x => x) (G := (·.2)) fun b hb => BT_id (s.ok.pos b hb), s.tot, sm_congr (F := fun h => h.2 * h.1) (G := fun h => h.1 * h.2) fun p _ => Int.mul_comm _ _]
/-- has the place one? -/
def hasB (ps : List P2) (x : Int) : Bool := ps.any fun p => decide (p.1 ≤ x) && decide (x ≤ p.2)
/-! ### the law's own way -/
def groups (hs : List P2) : List P2 := ((sortP hs).filter fun h => decide (0 < h.2)).map fun h => (h.2, h.2 * h.1)
theorem groups_stack (hs : List P2) : (groups hs).foldl push [] = stack hs := by
  unfold groups stack
  generalize sortP hs = l
  generalize ([] : List P2) = st
  induction l generalizing st with
  | nil => rfl
  | cons x r ih =>
    by_cases c : 0 < x.2
    · rw [List.filter_cons_of_pos (by simpa using c), List.map_cons, List.foldl_cons, List.foldl_cons, ih]
      congr 1
      unfold pushH
      rw [if_pos c]
    · rw [List.filter_cons_of_neg (by simpa using c), List.foldl_cons, ih]
      congr 1
      unfold pushH
      rw [if_neg c]
theorem law_first {n t : Int} (h : 0 < n) : bFirst (n, t) = (2 * t - n * (n - 1)) / (2 * n) ∧
    bGap (n, t) = (2 * t - n * (n - 1)) / (2 * n) + n - (t - n * ((2 * t - n * (n - 1)) / (2 * n)) - n * (n - 1) / 2) ∧
    (n * ((2 * t - n * (n - 1)) / (2 * n)) + n * (n - 1) / 2 = t ↔ bGap (n, t) = bLast (n, t)) := by
  have e : 2 * (n * (n - 1) / 2) = n * (n - 1) := by
    have := tri_even (n - 1)
    rw [show n - 1 + 1 = n by omega, Int.mul_comm (n - 1) n] at this
    exact this
  generalize hs : n * (n - 1) / 2 = s at *
  have e2 : 2 * t - n * (n - 1) = 2 * (t - s) := by omega
  rw [e2, Int.mul_ediv_mul_of_pos _ _ (by decide)]
  have h1 := Int.mul_ediv_add_emod (t - s) n
  have h2 := Int.emod_nonneg (t - s) (show n ≠ 0 by omega)
  have h3 := Int.emod_lt_of_pos (t - s) h
  generalize (t - s) / n = q at *
  generalize (t - s) % n = r at *
  have hr : t - n * q - s = r := by omega
  rw [hr]
  by_cases z : r = 0
  · have i : Is (n, t) q (q + n) := ⟨h, by omega, by show q + n ≤ q + n; omega, by show 2 * t = 2 * (n + 1) * q + n * (n + 1) - 2 * (q + n); grind⟩
    obtain ⟨a1, a2⟩ := i.uniq
    unfold bLast
    rw [a1, a2]
    refine ⟨rfl, by omega, ?_⟩
    constructor <;> intro _ <;> (try simp only) <;> omega
  · have i : Is (n, t) q (q + n - r) := ⟨h, by omega, by show q + n - r ≤ q + n; omega, by show 2 * t = 2 * (n + 1) * q + n * (n + 1) - 2 * (q + n - r); grind⟩
    obtain ⟨a1, a2⟩ := i.uniq
    unfold bLast
    rw [a1, a2]
    refine ⟨rfl, by omega, ?_⟩
    constructor <;> intro _ <;> (try simp only at *) <;> omega
end Mth

set_option Elab.async false
namespace Mth
/-! ### how often a place gives -/
def gaveF (hs : List P2) (p : Int) : Int := sm (ov (Ph p)) (stretches hs) - sm (hp (Ph p)) hs
theorem gaveF_nonneg {hs : List P2} (h : Ok hs) (p : Int) : 0 ≤ gaveF hs p := by
  obtain ⟨c, e⟩ := stretches_ok h
  obtain ⟨pm, s⟩ := stack_ok h
  have := s.le p
  unfold gaveF
  rw [e]
  omega
def wayTo (p f l : Int) : Int := if p ≤ f then 0 else (p - f + p - (if p - 1 < l then p - 1 else l)) * ((if p - 1 < l then p - 1 else l) - f + 1) / 2
theorem S_ph {p f : Int} {m : Nat} (h : f + m ≤ p + 1) : 2 * S (Ph p) f m = (2 * p - 2 * f - m + 1) * m := by
  rw [S_right (q := p) (by omega)]
  have := S_id f m
  grind
theorem wayTo_ov {p : Int} {q : P2} (h : q.1 ≤ q.2) : wayTo p q.1 q.2 = ov (Ph p) q := by
  obtain ⟨f, l⟩ := q
  simp only at h
  unfold wayTo ov
  simp only
  by_cases c : p ≤ f
  · rw [if_pos c, S_leftz c]
  · rw [if_neg c]
    by_cases c2 : p - 1 < l
    · rw [if_pos c2]
      have e : (l - f + 1).toNat = (p - f).toNat + (l - p + 1).toNat := by omega
      rw [e, S_add, show f + ((p - f).toNat : Int) = p by omega, S_leftz (Int.le_refl p)]
      have := S_ph (p := p) (f := f) (m := (p - f).toNat) (by omega)
      have e2 : ((p - f).toNat : Int) = p - f := by omega
      rw [e2] at this
      rw [show (p - f + p - (p - 1)) * (p - 1 - f + 1) = (2 * p - 2 * f - (p - f) + 1) * (p - f) by grind, ← this]
      omega
    · rw [if_neg c2]
      have := S_ph (p := p) (f := f) (m := (l - f + 1).toNat) (by omega)
      have e2 : ((l - f + 1).toNat : Int) = l - f + 1 := by omega
      rw [e2] at this
      rw [show (p - f + p - l) * (l - f + 1) = (2 * p - 2 * f - (l - f + 1) + 1) * (l - f + 1) by grind, ← this]
      omega
/-- one at x -/
def dl (x y : Int) : Int := if y = x then 1 else 0
theorem ph_dd (x y : Int) : ph (x - 1) y + ph (x + 1) y - 2 * ph x y = dl x y := by
  unfold ph dl
  repeat' split
  all_goals omega
theorem S_lin (a b : Int) (φ ψ : Int → Int) (f : Int) : ∀ m : Nat, S (fun y => a * φ y + b * ψ y) f m = a * S φ f m + b * S ψ f m
  | 0 => by simp [S]
  | m + 1 => by
    show S (fun y => a * φ y + b * ψ y) f m + (a * φ (f + m) + b * ψ (f + m)) = a * (S φ f m + φ (f + m)) + b * (S ψ f m + ψ (f + m))
    rw [S_lin a b φ ψ f m]
    grind
theorem ov_dd (x : Int) (q : P2) : ov (Ph (x - 1)) q + ov (Ph (x + 1)) q - 2 * ov (Ph x) q = ov (dl x) q := by
  unfold ov
  generalize (q.2 - q.1 + 1).toNat = m
  induction m with
  | zero => rfl
  | succ m ih =>
    show (S (Ph (x - 1)) q.1 m + ph (x - 1) (q.1 + m)) + (S (Ph (x + 1)) q.1 m + ph (x + 1) (q.1 + m)) - 2 * (S (Ph x) q.1 m + ph x (q.1 + m)) = S (dl x) q.1 m + dl x (q.1 + m)
    have := ph_dd x (q.1 + m)
    omega
theorem sm_dd {F G D : P2 → Int} {E : P2 → Int} : ∀ {l : List P2}, (∀ p ∈ l, F p + G p - 2 * D p = E p) → sm F l + sm G l - 2 * sm D l = sm E l
  | [], _ => rfl
  | x :: r, h => by
    rw [sm_cons, sm_cons, sm_cons, sm_cons]
    have h1 := h x List.mem_cons_self
    have h2 := sm_dd (l := r) fun p hp => h p (List.mem_cons_of_mem _ hp)
    omega
theorem S_dl (x f : Int) : ∀ m : Nat, S (dl x) f m = if f ≤ x ∧ x < f + m then 1 else 0
  | 0 => by
    show (0 : Int) = _
    rw [if_neg (by omega)]
  | m + 1 => by
    show S (dl x) f m + dl x (f + m) = _
    rw [S_dl x f m]
    unfold dl
    repeat' split
    all_goals omega
theorem ov_dl (x : Int) {q : P2} (h : q.1 ≤ q.2) : ov (dl x) q = if q.1 ≤ x ∧ x ≤ q.2 then 1 else 0 := by
  unfold ov
  rw [S_dl]
  repeat' split
  all_goals omega
theorem has_sum {ps : List P2} (c : Can ps) (x : Int) : sm (ov (dl x)) ps = if hasB ps x then 1 else 0 := by
  obtain ⟨n, u⟩ := c
  induction ps with
  | nil => rfl
  | cons q r ih =>
    obtain ⟨u1, u2⟩ := List.pairwise_cons.mp u
    have ih := ih (fun p hp => n p (List.mem_cons_of_mem _ hp)) u2
    rw [sm_cons, ih, ov_dl x (n q List.mem_cons_self)]
    have e : hasB (q :: r) x = ((decide (q.1 ≤ x) && decide (x ≤ q.2)) || hasB r x) := by unfold hasB; rw [List.any_cons]
    rw [e]
    by_cases c1 : q.1 ≤ x ∧ x ≤ q.2
    · have h2 : hasB r x = false := by
        unfold hasB
        refine List.any_eq_false.mpr fun p hp => ?_
        have := u1 p hp
        simp only [Bool.and_eq_true, decide_eq_true_eq]
        omega
      rw [if_pos c1, h2, decide_eq_true c1.1, decide_eq_true c1.2]
      rfl
    · rw [if_neg c1]
      have h1 : (decide (q.1 ≤ x) && decide (x ≤ q.2)) = false := by
        rw [Bool.eq_false_iff]
        intro z
        rw [Bool.and_eq_true] at z
        exact c1 ⟨of_decide_eq_true z.1, of_decide_eq_true z.2⟩
      rw [h1, Bool.false_or]
      omega
/-- what the place has by heaps -/
def hadF (hs : List P2) (x : Int) : Int := sm (fun h => if h.1 = x then h.2 else 0) hs
theorem gave_lap {hs : List P2} (h : Ok hs) (x : Int) : hadF hs x + gaveF hs (x - 1) + gaveF hs (x + 1) - 2 * gaveF hs x = if hasB (stretches hs) x then 1 else 0 := by
  have h1 := sm_dd (F := ov (Ph (x - 1))) (G := ov (Ph (x + 1))) (D := ov (Ph x)) (E := ov (dl x)) (l := stretches hs) fun p _ => ov_dd x p
  have h2 := sm_dd (F := hp (Ph (x - 1))) (G := hp (Ph (x + 1))) (D := hp (Ph x)) (E := fun h => if h.1 = x then h.2 else 0) (l := hs) fun p _ => by
    unfold hp Ph
    have := ph_dd x p.1
    unfold dl at this
    split
    · rename_i c
      rw [if_pos c] at this
      have : p.2 * ph (x - 1) p.1 + p.2 * ph (x + 1) p.1 - 2 * (p.2 * ph x p.1) = p.2 * (ph (x - 1) p.1 + ph (x + 1) p.1 - 2 * ph x p.1) := by grind
      rw [this]
      rename_i e
      rw [e]
      omega
    · rename_i c
      rw [if_neg c] at this
      have : p.2 * ph (x - 1) p.1 + p.2 * ph (x + 1) p.1 - 2 * (p.2 * ph x p.1) = p.2 * (ph (x - 1) p.1 + ph (x + 1) p.1 - 2 * ph x p.1) := by grind
      rw [this]
      rename_i e
      rw [e]
      omega
  rw [has_sum (stretches_ok h).1] at h1
  unfold gaveF hadF
  omega
theorem ov_leftz {p : Int} {q : P2} (h : p ≤ q.1) : ov (Ph p) q = 0 := S_leftz h
theorem gave_left {hs : List P2} (h : Ok hs) {p : Int} (hp1 : ∀ q ∈ stretches hs, p ≤ q.1) : gaveF hs p = 0 := by
  have h0 := gaveF_nonneg h p
  have h1 : sm (ov (Ph p)) (stretches hs) = 0 := by
    rw [sm_congr (G := fun _ => 0) fun q hq => ov_leftz (hp1 q hq)]
    generalize stretches hs = l
    induction l with
    | nil => rfl
    | cons x r ih => rw [sm_cons, ih]; rfl
  have h2 : 0 ≤ sm (hp (Ph p)) hs := by
    have key : ∀ l : List P2, Ok l → 0 ≤ sm (hp (Ph p)) l := by
      intro l
      induction l with
      | nil => intro _; exact Int.le_refl _
      | cons x r ih =>
        intro hl
        rw [sm_cons]
        have := ih fun y hy => hl y (List.mem_cons_of_mem _ hy)
        have hx := hl x List.mem_cons_self
        have : 0 ≤ hp (Ph p) x := by
          unfold hp Ph
          refine Int.mul_nonneg hx ?_
          unfold ph
          split <;> omega
        omega
    exact key hs h
  unfold gaveF at *
  omega
theorem gave_right {hs : List P2} (h : Ok hs) {p : Int} (hp1 : ∀ q ∈ stretches hs, q.2 ≤ p) : gaveF hs p = 0 := by
  have h0 := gaveF_nonneg h p
  obtain ⟨c, e⟩ := stretches_ok h
  obtain ⟨pm, s⟩ := stack_ok h
  have c1 : sm (ov fun _ => 1) (stretches hs) = sm (·.2) hs := by rw [e, sm_congr (G := (·.1)) fun b hb => BT_one (s.ok.pos b hb), s.cnt]
  have c2 : sm (ov fun x => x) (stretches hs) = sm (fun h => h.2 * h.1) hs := by rw [e, sm_congr (G := (·.2)) fun b hb => BT_id (s.ok.pos b hb), s.tot]
  have h1 : sm (ov (Ph p)) (stretches hs) = p * sm (·.2) hs - sm (fun h => h.2 * h.1) hs := by
    rw [← c1, ← c2]
    have key : ∀ l : List P2, (∀ q ∈ l, q.1 ≤ q.2 ∧ q.2 ≤ p) → sm (ov (Ph p)) l = p * sm (ov fun _ => 1) l - sm (ov fun x => x) l := by
      intro l
      induction l with
      | nil => intro _; simp [sm]
      | cons x r ih =>
        intro hl
        rw [sm_cons, sm_cons, sm_cons, ih fun y hy => hl y (List.mem_cons_of_mem _ hy)]
        obtain ⟨x1, x2⟩ := hl x List.mem_cons_self
        have : ov (Ph p) x = p * ov (fun _ => 1) x - ov (fun x => x) x := by
          unfold ov
          rw [S_right (by omega), S_one]
        rw [this]
        grind
    exact key _ fun q hq => ⟨c.ne q hq, hp1 q hq⟩
  have h2 : p * sm (·.2) hs - sm (fun h => h.2 * h.1) hs ≤ sm (hp (Ph p)) hs := by
    have key : ∀ l : List P2, Ok l → p * sm (·.2) l - sm (fun h => h.2 * h.1) l ≤ sm (hp (Ph p)) l := by
      intro l
      induction l with
      | nil => intro _; simp [sm]
      | cons x r ih =>
        intro hl
        rw [sm_cons, sm_cons, sm_cons]
        have i1 := ih fun y hy => hl y (List.mem_cons_of_mem _ hy)
        have hx := hl x List.mem_cons_self
        have : x.2 * (p - x.1) ≤ hp (Ph p) x := by
          unfold hp Ph
          refine Int.mul_le_mul_of_nonneg_left ?_ hx
          unfold ph
          split <;> omega
        have e1 : x.2 * (p - x.1) = p * x.2 - x.2 * x.1 := by grind
        have e2 : p * (x.2 + sm (·.2) r) = p * x.2 + p * sm (·.2) r := by grind
        rw [e2]
        omega
    exact key hs h
  unfold gaveF at *
  omega
/-! ### all of them, by squares -/
def sqTo (n : Int) : Int := n * (n + 1) * (2 * n + 1) / 6
theorem sqTo_six (n : Int) : 6 * sqTo n = n * (n + 1) * (2 * n + 1) := by
  have h : n * (n + 1) * (2 * n + 1) % 6 = 0 := by
    obtain ⟨k, r, hr, rfl⟩ : ∃ k r : Int, (r = 0 ∨ r = 1 ∨ r = 2 ∨ r = 3 ∨ r = 4 ∨ r = 5) ∧ n = 6 * k + r := ⟨n / 6, n % 6, by omega, by omega⟩
    have e : (6 * k + r) * (6 * k + r + 1) * (2 * (6 * k + r) + 1) = 6 * (72 * k * k * k + 36 * k * k * r + 18 * k * k + 6 * k * r * r + 6 * k * r + k) + r * (r + 1) * (2 * r + 1) := by grind
    rw [e]
    rcases hr with rfl | rfl | rfl | rfl | rfl | rfl <;> omega
  unfold sqTo
  omega
theorem sqTo_step (n : Int) : sqTo n - sqTo (n - 1) = n * n := by
  have h1 := sqTo_six n
  have h2 := sqTo_six (n - 1)
  have e : n * (n + 1) * (2 * n + 1) - (n - 1) * (n - 1 + 1) * (2 * (n - 1) + 1) = 6 * (n * n) := by grind
  omega
theorem S_sq (f : Int) : ∀ m : Nat, S (fun x => x * x) f m = sqTo (f + m - 1) - sqTo (f - 1)
  | 0 => by
    show (0 : Int) = _
    rw [show f + ((0 : Nat) : Int) - 1 = f - 1 by omega]
    omega
  | m + 1 => by
    show S (fun x => x * x) f m + (f + m) * (f + m) = _
    rw [S_sq f m]
    have := sqTo_step (f + m)
    rw [show f + ((m + 1 : Nat) : Int) - 1 = f + m by omega]
    omega
theorem squares_ov {q : P2} (h : q.1 ≤ q.2) : sqTo q.2 - sqTo (q.1 - 1) = ov (fun x => x * x) q := by
  unfold ov
  rw [S_sq, show q.1 + ((q.2 - q.1 + 1).toNat : Int) - 1 = q.2 by omega]
theorem lawsq_ov {q : P2} (h : q.1 ≤ q.2) : (q.2 - q.1 + 1) * q.1 * q.1 + q.1 * (q.2 - q.1 + 1) * (q.2 - q.1 + 1 - 1) + (q.2 - q.1 + 1 - 1) * (q.2 - q.1 + 1) * (2 * (q.2 - q.1 + 1) - 1) / 6 = ov (fun x => x * x) q := by
  rw [← squares_ov h]
  generalize hm : q.2 - q.1 + 1 = m
  have e1 : (m - 1) * m * (2 * m - 1) / 6 = sqTo (m - 1) := by
    unfold sqTo
    rw [show m - 1 + 1 = m by omega, show 2 * (m - 1) + 1 = 2 * m - 1 by omega]
  rw [e1]
  have e2 : q.2 = q.1 + m - 1 := by omega
  rw [e2]
  generalize q.1 = f
  have h1 := sqTo_six (m - 1)
  have h2 := sqTo_six (f + m - 1)
  have h3 := sqTo_six (f - 1)
  have e : 6 * (m * f * f + f * m * (m - 1)) + (m - 1) * (m - 1 + 1) * (2 * (m - 1) + 1) = (f + m - 1) * (f + m - 1 + 1) * (2 * (f + m - 1) + 1) - (f - 1) * (f - 1 + 1) * (2 * (f - 1) + 1) := by grind
  omega
def allF (hs : List P2) : Int := (sm (ov fun x => x * x) (stretches hs) - sm (fun h => h.2 * h.1 * h.1) hs) / 2
theorem sq_par (x : Int) : (x * x - x) % 2 = 0 := by
  have : x % 2 = 0 ∨ x % 2 = 1 := by omega
  obtain ⟨k, hk⟩ : ∃ k, x = 2 * k ∨ x = 2 * k + 1 := ⟨x / 2, by omega⟩
  rcases hk with rfl | rfl
  · rw [show 2 * k * (2 * k) - 2 * k = 2 * (2 * k * k - k) by grind]; omega
  · rw [show (2 * k + 1) * (2 * k + 1) - (2 * k + 1) = 2 * (2 * k * k + k) by grind]; omega
theorem allF_two {hs : List P2} (h : Ok hs) : 2 * allF hs = sm (ov fun x => x * x) (stretches hs) - sm (fun h => h.2 * h.1 * h.1) hs := by
  obtain ⟨c, e⟩ := stretches_ok h
  obtain ⟨pm, s⟩ := stack_ok h
  have c2 : sm (ov fun x => x) (stretches hs) = sm (fun h => h.2 * h.1) hs := by rw [e, sm_congr (G := (·.2)) fun b hb => BT_id (s.ok.pos b hb), s.tot]
  have k1 : ∀ (f : Int) (m : Nat), (S (fun x => x * x) f m - S (fun x => x) f m) % 2 = 0 := by
    intro f m
    induction m with
    | zero => rfl
    | succ m ih =>
      show (S (fun x => x * x) f m + (f + m) * (f + m) - (S (fun x => x) f m + (f + m))) % 2 = 0
      have := sq_par (f + m)
      omega
  have k2 : ∀ l : List P2, (sm (ov fun x => x * x) l - sm (ov fun x => x) l) % 2 = 0 := by
    intro l
    induction l with
    | nil => rfl
    | cons x r ih =>
      rw [sm_cons, sm_cons]
      have : (ov (fun x => x * x) x - ov (fun x => x) x) % 2 = 0 := k1 _ _
      omega
  have k3 : ∀ l : List P2, (sm (fun h => h.2 * h.1 * h.1) l - sm (fun h => h.2 * h.1) l) % 2 = 0 := by
    intro l
    induction l with
    | nil => rfl
    | cons x r ih =>
      rw [sm_cons, sm_cons]
      have h1 := sq_par x.1
      have h2 : x.2 * x.1 * x.1 - x.2 * x.1 = x.2 * (x.1 * x.1 - x.1) := by grind
      have : (x.2 * x.1 * x.1 - x.2 * x.1) % 2 = 0 := by
        rw [h2, Int.mul_emod, h1]
        simp
      omega
  have k4 := k2 (stretches hs)
  have k5 := k3 hs
  unfold allF
  omega
end Mth

set_option Elab.async false
namespace Mth
/-! ### least: no other giving brings every place to one chip at most with less -/
theorem argmax (f : Int → Int) (L : Int) : ∀ n : Nat, ∃ p, L ≤ p ∧ p ≤ L + n ∧ (∀ x, L ≤ x → x < p → f x < f p) ∧ ∀ x, L ≤ x → x ≤ L + n → f x ≤ f p
  | 0 => ⟨L, by omega, by omega, fun x h1 h2 => by omega, fun x h1 h2 => by rw [show x = L by omega]; exact Int.le_refl _⟩
  | n + 1 => by
    obtain ⟨p, h1, h2, h3, h4⟩ := argmax f L n
    by_cases c : f p < f (L + (n + 1 : Nat))
    · refine ⟨L + (n + 1 : Nat), by omega, by omega, fun x x1 x2 => ?_, fun x x1 x2 => ?_⟩
      · have := h4 x x1 (by omega)
        omega
      · by_cases e : x = L + (n + 1 : Nat)
        · rw [e]; exact Int.le_refl _
        · have := h4 x x1 (by omega)
          omega
    · refine ⟨p, h1, by omega, h3, fun x x1 x2 => ?_⟩
      by_cases e : x = L + (n + 1 : Nat)
      · rw [e]; omega
      · exact h4 x x1 (by omega)
/-- a chip there? -/
def hs01 (ps : List P2) (x : Int) : Int := if hasB ps x then 1 else 0
theorem hs01_b (ps : List P2) (x : Int) : hs01 ps x = 0 ∨ hs01 ps x = 1 := by unfold hs01; split <;> simp
theorem least_core {u v c had : Int → Int} {L R : Int} (_hu : ∀ x, 0 ≤ u x) (hL : ∀ x, x ≤ L → u x = 0) (hR : ∀ x, R ≤ x → u x = 0) (hc : ∀ x, c x = 0 ∨ c x = 1) (lap : ∀ x, had x + u (x - 1) + u (x + 1) - 2 * u x = c x)
    (good : ∀ p q, p < q → (∀ x, p ≤ x → x ≤ q → 0 < u x) → c p = 0 → c q = 0 → False) (hv : ∀ x, 0 ≤ v x) (hlap : ∀ x, had x + v (x - 1) + v (x + 1) - 2 * v x ≤ 1) (x : Int) : u x ≤ v x := by
  apply Classical.byContradiction
  intro hx
  have ux : 0 < u x := by have := hv x; omega
  have xL : L < x := by
    apply Classical.byContradiction
    intro z
    have := hL x (by omega)
    omega
  have xR : x < R := by
    apply Classical.byContradiction
    intro z
    have := hR x (by omega)
    omega
  obtain ⟨p, p1, p2, p3, p4⟩ := argmax (fun y => u y - v y) L (R - L).toNat
  have hM : 0 < u p - v p := by have := p4 x (by omega) (by omega); omega
  -- the greatest everywhere
  have mx : ∀ y, u y - v y ≤ u p - v p := by
    intro y
    by_cases c1 : y < L
    · have := hL y (by omega); have := hv y; omega
    · by_cases c2 : R < y
      · have := hR y (by omega); have := hv y; omega
      · exact p4 y (by omega) (by omega)
  have pl : u (p - 1) - v (p - 1) < u p - v p := by
    by_cases c1 : p - 1 < L
    · have := hL (p - 1) (by omega); have := hv (p - 1); omega
    · exact p3 (p - 1) (by omega) (by omega)
  have cp : c p = 0 := by
    have h1 := lap p
    have h2 := hlap p
    have h3 := mx (p + 1)
    rcases hc p with h | h
    · exact h
    · omega
  have step : ∀ n : Nat, ∀ k : Nat, k ≤ n → u (p + k) - v (p + k) = u p - v p := by
    intro n
    induction n with
    | zero =>
      intro k hk
      rw [show k = 0 by omega]
      simp
    | succ n ih =>
      intro k hk
      by_cases ek : k ≤ n
      · exact ih k ek
      · have ek : k = n + 1 := by omega
        subst ek
        have h0 := ih n (Nat.le_refl _)
        have h1 := lap (p + n)
        have h2 := hlap (p + n)
        have h3 := mx (p + n - 1)
        have h4 := mx (p + n + 1)
        rw [show p + ((n + 1 : Nat) : Int) = p + n + 1 by omega]
        by_cases z : n = 0
        · subst z
          simp only [Int.natCast_zero, Int.add_zero] at h1 h2 h3 h4 ⊢
          have := hc p
          omega
        · have cq : c (p + n) ≠ 0 := fun e => good p (p + n) (by omega) (fun y y1 y2 => by
            have h5 := ih (y - p).toNat (by omega)
            rw [show p + ((y - p).toNat : Int) = y by omega] at h5
            have := hv y
            omega) cp e
          have := hc (p + n)
          omega
  have fin := step (R - p).toNat (R - p).toNat (Nat.le_refl _)
  rw [show p + ((R - p).toNat : Int) = R by omega] at fin
  have := hR R (Int.le_refl _)
  have := hv R
  omega
theorem pw_tri {α : Type} {R : α → α → Prop} : ∀ {l : List α}, l.Pairwise R → ∀ {a b : α}, a ∈ l → b ∈ l → a = b ∨ R a b ∨ R b a
  | [], _, _, _, ha, _ => nomatch ha
  | x :: r, h, a, b, ha, hb => by
    obtain ⟨h1, h2⟩ := List.pairwise_cons.mp h
    rcases List.mem_cons.mp ha with rfl | ha2
    · rcases List.mem_cons.mp hb with rfl | hb2
      · exact .inl rfl
      · exact .inr (.inl (h1 b hb2))
    · rcases List.mem_cons.mp hb with rfl | hb2
      · exact .inr (.inr (h1 a ha2))
      · exact pw_tri h2 ha2 hb2
theorem gave_in {hs : List P2} (h : Ok hs) {x : Int} (hx : 0 < gaveF hs x) : ∃ b ∈ stack hs, bFirst b < x ∧ x < bEnd b := by
  obtain ⟨pm, s⟩ := stack_ok h
  obtain ⟨c, e⟩ := stretches_ok h
  apply Classical.byContradiction
  intro z
  have := s.out x fun b hb => by
    by_cases c1 : x ≤ bFirst b
    · exact .inl c1
    · by_cases c2 : bEnd b ≤ x
      · exact .inr c2
      · exact absurd ⟨b, hb, by omega, by omega⟩ z
  unfold gaveF at hx
  rw [e] at hx
  omega
theorem BT_dl {b : P2} (h : 0 < b.1) (x : Int) : 0 ≤ BT (dl x) b ∧ (bFirst b ≤ x → x ≤ bEnd b → x ≠ bGap b → BT (dl x) b = 1) := by
  have i := is_of h
  have l1 := i.lo
  have l2 := i.hi
  rw [BT_is i, T_split i, S_dl, S_dl]
  refine ⟨?_, fun h1 h2 h3 => ?_⟩
  · split <;> split <;> omega
  · have : bEnd b ≤ bFirst b + b.1 := by
      unfold bEnd
      unfold bLast
      split <;> omega
    repeat' split
    all_goals omega
theorem gap_of {hs : List P2} (h : Ok hs) {b : P2} (hb : b ∈ stack hs) {x : Int} (h1 : bFirst b ≤ x) (h2 : x ≤ bEnd b) (hx : hs01 (stretches hs) x = 0) : x = bGap b := by
  obtain ⟨pm, s⟩ := stack_ok h
  obtain ⟨c, e⟩ := stretches_ok h
  have e1 := has_sum c x
  rw [e] at e1
  apply Classical.byContradiction
  intro z
  have one := (BT_dl (s.ok.pos b hb) x).2 h1 h2 z
  have key : ∀ l : List P2, (∀ a ∈ l, 0 < a.1) → b ∈ l → BT (dl x) b ≤ sm (BT (dl x)) l := by
    intro l
    induction l with
    | nil => intro _ hb; exact nomatch hb
    | cons a r ih =>
      intro hl hb
      rw [sm_cons]
      have ha := (BT_dl (hl a List.mem_cons_self) x).1
      rcases List.mem_cons.mp hb with rfl | hb
      · have : 0 ≤ sm (BT (dl x)) r := by
          have hr : ∀ a ∈ r, 0 < a.1 := fun a ha => hl a (List.mem_cons_of_mem _ ha)
          clear ih hl hb
          induction r with
          | nil => exact Int.le_refl _
          | cons a r ih =>
            rw [sm_cons]
            have := (BT_dl (hr a List.mem_cons_self) x).1
            have := ih fun a ha => hr a (List.mem_cons_of_mem _ ha)
            omega
        omega
      · have := ih (fun a ha => hl a (List.mem_cons_of_mem _ ha)) hb
        omega
  have := key _ s.ok.pos hb
  unfold hs01 at hx
  omega
theorem gave_good {hs : List P2} (h : Ok hs) (p q : Int) (hpq : p < q) (hu : ∀ x, p ≤ x → x ≤ q → 0 < gaveF hs x) (cp : hs01 (stretches hs) p = 0) (cq : hs01 (stretches hs) q = 0) : False := by
  obtain ⟨pm, s⟩ := stack_ok h
  obtain ⟨b, hb, b1, b2⟩ := gave_in h (hu p (Int.le_refl _) (by omega))
  have all : ∀ n : Nat, p + n ≤ q → bFirst b < p + n ∧ p + n < bEnd b := by
    intro n
    induction n with
    | zero => intro _; omega
    | succ n ih =>
      intro hn
      obtain ⟨i1, i2⟩ := ih (by omega)
      obtain ⟨d, hd, d1, d2⟩ := gave_in h (hu (p + (n + 1 : Nat)) (by omega) hn)
      rcases pw_tri s.ok.sep hb hd with e | e | e
      · subst e
        exact ⟨d1, d2⟩
      · omega
      · omega
  have l := all (q - p).toNat (by omega)
  rw [show p + ((q - p).toNat : Int) = q by omega] at l
  have g1 := gap_of h hb (by omega) (by omega) cp
  have g2 := gap_of h hb (by omega) (by omega) cq
  omega
theorem stretch_span (ps : List P2) : ∃ L R : Int, ∀ q ∈ ps, L ≤ q.1 ∧ q.2 ≤ R := by
  induction ps with
  | nil => exact ⟨0, 0, fun _ h => nomatch h⟩
  | cons a r ih =>
    obtain ⟨L, R, h⟩ := ih
    refine ⟨if L < a.1 then L else a.1, if a.2 < R then R else a.2, fun q hq => ?_⟩
    rcases List.mem_cons.mp hq with rfl | hq
    · constructor <;> split <;> omega
    · have := h q hq
      constructor <;> split <;> omega
theorem least {hs : List P2} (h : Ok hs) {v : Int → Int} (hv : ∀ x, 0 ≤ v x) (hlap : ∀ x, hadF hs x + v (x - 1) + v (x + 1) - 2 * v x ≤ 1) (x : Int) : gaveF hs x ≤ v x := by
  obtain ⟨L, R, hLR⟩ := stretch_span (stretches hs)
  exact least_core (fun y => gaveF_nonneg h y) (L := L) (R := R) (fun y hy => gave_left h fun q hq => by have := hLR q hq; omega) (fun y hy => gave_right h fun q hq => by have := hLR q hq; omega) (hs01_b (stretches hs)) (fun y => gave_lap h y) (gave_good h) hv hlap x
theorem gave_lap' {hs : List P2} (h : Ok hs) (x : Int) : hadF hs x + gaveF hs (x - 1) + gaveF hs (x + 1) - 2 * gaveF hs x = hs01 (stretches hs) x := gave_lap h x
theorem gave_lap1 {hs : List P2} (h : Ok hs) (x : Int) : hadF hs x + gaveF hs (x - 1) + gaveF hs (x + 1) - 2 * gaveF hs x ≤ 1 := by
  have := gave_lap' h x
  have := hs01_b (stretches hs) x
  omega
/-! ### stretches by their places -/
theorem hasB_cons (q : P2) (r : List P2) (x : Int) : hasB (q :: r) x = ((decide (q.1 ≤ x) && decide (x ≤ q.2)) || hasB r x) := by unfold hasB; rw [List.any_cons]
theorem hasB_iff {ps : List P2} {x : Int} : hasB ps x = true ↔ ∃ q ∈ ps, q.1 ≤ x ∧ x ≤ q.2 := by
  unfold hasB
  rw [List.any_eq_true]
  simp only [Bool.and_eq_true, decide_eq_true_eq]
theorem can_tail {q : P2} {r : List P2} (c : Can (q :: r)) : Can r ∧ ∀ a ∈ r, q.2 + 1 < a.1 := by
  obtain ⟨n, u⟩ := c
  obtain ⟨u1, u2⟩ := List.pairwise_cons.mp u
  exact ⟨⟨fun a ha => n a (List.mem_cons_of_mem _ ha), u2⟩, u1⟩
theorem can_eq : ∀ {ps qs : List P2}, Can ps → Can qs → (∀ x, hasB ps x = hasB qs x) → ps = qs
  | [], [], _, _, _ => rfl
  | [], q :: s, _, c, h => by
    have h1 : hasB (q :: s) q.1 = true := hasB_iff.mpr ⟨q, List.mem_cons_self, Int.le_refl _, c.ne q List.mem_cons_self⟩
    rw [← h] at h1
    exact nomatch h1
  | p :: r, [], c, _, h => by
    have h1 : hasB (p :: r) p.1 = true := hasB_iff.mpr ⟨p, List.mem_cons_self, Int.le_refl _, c.ne p List.mem_cons_self⟩
    rw [h] at h1
    exact nomatch h1
  | p :: r, q :: s, c, d, h => by
    obtain ⟨c1, c2⟩ := can_tail c
    obtain ⟨d1, d2⟩ := can_tail d
    have np := c.ne p List.mem_cons_self
    have nq := d.ne q List.mem_cons_self
    have low : ∀ {q : P2} {s : List P2} {x : Int}, Can (q :: s) → hasB (q :: s) x = true → q.1 ≤ x := by
      intro q s x d hx
      obtain ⟨a, ha, a1, a2⟩ := hasB_iff.mp hx
      rcases List.mem_cons.mp ha with rfl | ha
      · exact a1
      · have := (can_tail d).2 a ha
        have := d.ne q List.mem_cons_self
        omega
    have e1 : p.1 = q.1 := by
      have h1 : hasB (p :: r) p.1 = true := hasB_iff.mpr ⟨p, List.mem_cons_self, Int.le_refl _, np⟩
      have h2 : hasB (q :: s) q.1 = true := hasB_iff.mpr ⟨q, List.mem_cons_self, Int.le_refl _, nq⟩
      rw [h] at h1
      rw [← h] at h2
      have := low d h1
      have := low c h2
      omega
    have end_ : ∀ {p : P2} {r : List P2}, Can (p :: r) → hasB (p :: r) (p.2 + 1) = false := by
      intro p r c
      rw [Bool.eq_false_iff]
      intro z
      obtain ⟨a, ha, a1, a2⟩ := hasB_iff.mp z
      rcases List.mem_cons.mp ha with rfl | ha
      · omega
      · have := (can_tail c).2 a ha
        omega
    have mid : ∀ {p : P2} {r : List P2} {x : Int}, p.1 ≤ x → x ≤ p.2 → hasB (p :: r) x = true := fun h1 h2 => hasB_iff.mpr ⟨_, List.mem_cons_self, h1, h2⟩
    have e2 : p.2 = q.2 := by
      have f1 := end_ c
      have f2 := end_ d
      by_cases z : p.2 < q.2
      · have := mid (p := q) (r := s) (x := p.2 + 1) (by omega) (by omega)
        rw [← h, f1] at this
        cases this
      · by_cases z2 : q.2 < p.2
        · have := mid (p := p) (r := r) (x := q.2 + 1) (by omega) (by omega)
          rw [h, f2] at this
          cases this
        · omega
    have e : p = q := Prod.ext e1 e2
    subst e
    congr 1
    refine can_eq c1 d1 fun x => ?_
    by_cases z : x ≤ p.2
    · have none_ : ∀ {r : List P2}, (∀ a ∈ r, p.2 + 1 < a.1) → hasB r x = false := by
        intro r hr
        rw [Bool.eq_false_iff]
        intro w
        obtain ⟨a, ha, a1, a2⟩ := hasB_iff.mp w
        have := hr a ha
        omega
      rw [none_ c2, none_ d2]
    · have := h x
      rw [hasB_cons, hasB_cons, decide_eq_false z, Bool.and_false, Bool.false_or, Bool.false_or] at this
      exact this
theorem hs01_eq {ps qs : List P2} {x y : Int} (h : hs01 ps x = hs01 qs y) : hasB ps x = hasB qs y := by
  unfold hs01 at h
  cases h1 : hasB ps x <;> cases h2 : hasB qs y <;> rw [h1, h2] at h <;> first | rfl | (simp at h)
/-- the same heaps at each place: the same -/
theorem same {hs gs : List P2} (h : Ok hs) (g : Ok gs) (e : ∀ x, hadF hs x = hadF gs x) : (∀ x, gaveF hs x = gaveF gs x) ∧ stretches hs = stretches gs := by
  have eq : ∀ x, gaveF hs x = gaveF gs x := fun x => by
    have h1 := least h (v := gaveF gs) (gaveF_nonneg g) (fun y => by rw [e]; exact gave_lap1 g y) x
    have h2 := least g (v := gaveF hs) (gaveF_nonneg h) (fun y => by rw [← e]; exact gave_lap1 h y) x
    omega
  refine ⟨eq, can_eq (stretches_ok h).1 (stretches_ok g).1 fun x => hs01_eq ?_⟩
  rw [← gave_lap' h, ← gave_lap' g, e, eq, eq, eq]
/-- moved by so much -/
theorem moved {hs gs : List P2} (h : Ok hs) (g : Ok gs) (k : Int) (e : ∀ x, hadF gs (x + k) = hadF hs x) : (∀ x, gaveF gs (x + k) = gaveF hs x) ∧ stretches gs = (stretches hs).map fun q => (q.1 + k, q.2 + k) := by
  have eq : ∀ x, gaveF gs (x + k) = gaveF hs x := fun x => by
    have h1 := least h (v := fun y => gaveF gs (y + k)) (fun y => gaveF_nonneg g _) (fun y => by
      have := gave_lap1 g (y + k)
      rw [e] at this
      rw [show y - 1 + k = y + k - 1 by omega, show y + 1 + k = y + k + 1 by omega]
      exact this) x
    have h2 := least g (v := fun y => gaveF hs (y - k)) (fun y => gaveF_nonneg h _) (fun y => by
      have := gave_lap1 h (y - k)
      rw [← e, show y - k + k = y by omega] at this
      rw [show y - 1 - k = y - k - 1 by omega, show y + 1 - k = y - k + 1 by omega]
      exact this) (x + k)
    rw [show x + k - k = x by omega] at h2
    omega
  refine ⟨eq, can_eq (stretches_ok g).1 ?_ fun x => ?_⟩
  · obtain ⟨n, u⟩ := (stretches_ok h).1
    refine ⟨fun q hq => ?_, List.pairwise_map.mpr (u.imp fun r => by simp only; omega)⟩
    obtain ⟨r, hr, rfl⟩ := List.mem_map.mp hq
    have := n r hr
    simp only
    omega
  · have h1 : hasB ((stretches hs).map fun q => (q.1 + k, q.2 + k)) x = hasB (stretches hs) (x - k) := by
      unfold hasB
      rw [List.any_map]
      congr 1
      funext q
      simp only [Function.comp]
      rw [show decide (q.1 + k ≤ x) = decide (q.1 ≤ x - k) by rw [Bool.eq_iff_iff]; simp; omega, show decide (x ≤ q.2 + k) = decide (x - k ≤ q.2) by rw [Bool.eq_iff_iff]; simp; omega]
    rw [h1]
    refine hs01_eq ?_
    rw [← gave_lap' h, ← gave_lap' g, ← e (x - k), ← eq (x - k - 1), ← eq (x - k + 1), ← eq (x - k), show x - k + k = x by omega, show x - k - 1 + k = x - 1 by omega, show x - k + 1 + k = x + 1 by omega]
/-- mirrored -/
theorem mirrored {hs gs : List P2} (h : Ok hs) (g : Ok gs) (e : ∀ x, hadF gs (-x) = hadF hs x) : (∀ x, gaveF gs (-x) = gaveF hs x) ∧ stretches gs = (stretches hs).reverse.map fun q => (-q.2, -q.1) := by
  have eq : ∀ x, gaveF gs (-x) = gaveF hs x := fun x => by
    have h1 := least h (v := fun y => gaveF gs (-y)) (fun y => gaveF_nonneg g _) (fun y => by
      have := gave_lap1 g (-y)
      rw [e] at this
      rw [show -(y - 1) = -y + 1 by omega, show -(y + 1) = -y - 1 by omega]
      omega) x
    have h2 := least g (v := fun y => gaveF hs (-y)) (fun y => gaveF_nonneg h _) (fun y => by
      have := gave_lap1 h (-y)
      rw [← e, show - -y = y by omega] at this
      rw [show -(y - 1) = -y + 1 by omega, show -(y + 1) = -y - 1 by omega]
      omega) (-x)
    rw [show - -x = x by omega] at h2
    omega
  refine ⟨eq, can_eq (stretches_ok g).1 ?_ fun x => ?_⟩
  · obtain ⟨n, u⟩ := (stretches_ok h).1
    refine ⟨fun q hq => ?_, List.pairwise_map.mpr (List.pairwise_reverse.mpr (u.imp fun r => by simp only; omega))⟩
    obtain ⟨r, hr, rfl⟩ := List.mem_map.mp hq
    have := n r (List.mem_reverse.mp hr)
    simp only
    omega
  · have h1 : hasB ((stretches hs).reverse.map fun q => (-q.2, -q.1)) x = hasB (stretches hs) (-x) := by
      unfold hasB
      rw [List.any_map, List.any_reverse]
      congr 1
      funext q
      simp only [Function.comp]
      rw [show decide (-q.2 ≤ x) = decide (-x ≤ q.2) by rw [Bool.eq_iff_iff]; simp; omega, show decide (x ≤ -q.1) = decide (q.1 ≤ -x) by rw [Bool.eq_iff_iff]; simp; omega, Bool.and_comm]
    rw [h1]
    refine hs01_eq ?_
    have a1 := eq (-x)
    have a2 := eq (-x - 1)
    have a3 := eq (-x + 1)
    have a4 := e (-x)
    have b1 := gave_lap' h (-x)
    have b2 := gave_lap' g x
    rw [show - -x = x by omega] at a1 a4
    rw [show -(-x - 1) = x + 1 by omega] at a2
    rw [show -(-x + 1) = x - 1 by omega] at a3
    omega
/-- put in later -/
theorem later {ss ms rs tm rm : List P2} (s : Ok ss) (m : Ok ms) (r : Ok rs) (t : Ok tm) (n : Ok rm) (e1 : ∀ x, hadF rs x = hs01 (stretches ss) x) (e2 : ∀ x, hadF tm x = hadF ss x + hadF ms x) (e3 : ∀ x, hadF rm x = hadF rs x + hadF ms x) :
    (∀ x, gaveF tm x = gaveF ss x + gaveF rm x) ∧ stretches rm = stretches tm := by
  have m0 : ∀ x, 0 ≤ hadF ms x := fun x => by
    clear e2 e3
    unfold hadF
    induction ms with
    | nil => exact Int.le_refl _
    | cons a l ih =>
      rw [sm_cons]
      have := m a List.mem_cons_self
      have := ih fun b hb => m b (List.mem_cons_of_mem _ hb)
      split <;> omega
  have eq : ∀ x, gaveF tm x = gaveF ss x + gaveF rm x := by
    have h1 := fun x => least t (v := fun y => gaveF ss y + gaveF rm y) (fun y => by have := gaveF_nonneg s y; have := gaveF_nonneg n y; omega) (fun y => by
      have a := gave_lap' s y
      have b := gave_lap1 n y
      rw [e3, e1] at b
      rw [e2]
      omega) x
    have h2 := least s (v := gaveF tm) (gaveF_nonneg t) (fun y => by
      have := gave_lap1 t y
      rw [e2] at this
      have := m0 y
      omega)
    have h3 := fun x => least n (v := fun y => gaveF tm y - gaveF ss y) (fun y => by have := h2 y; omega) (fun y => by
      have a := gave_lap' s y
      have b := gave_lap1 t y
      rw [e2] at b
      rw [e3, e1]
      omega) x
    intro x
    have := h1 x
    have := h3 x
    omega
  refine ⟨eq, can_eq (stretches_ok n).1 (stretches_ok t).1 fun x => hs01_eq ?_⟩
  have a := gave_lap' s x
  have b := gave_lap' n x
  have c := gave_lap' t x
  rw [e2, eq, eq, eq] at c
  rw [e3, e1] at b
  omega
end Mth

set_option Elab.async false
namespace Mth
def sq2 (h : P2) : Int := h.2 * h.1 * h.1
theorem sqTo_neg (n : Int) : sqTo (-n) = -sqTo (n - 1) := by
  have h1 := sqTo_six (-n)
  have h2 := sqTo_six (n - 1)
  have : -n * (-n + 1) * (2 * -n + 1) = -((n - 1) * (n - 1 + 1) * (2 * (n - 1) + 1)) := by grind
  omega
theorem ov_mir {q : P2} (h : q.1 ≤ q.2) : ov (fun x => x * x) (-q.2, -q.1) = ov (fun x => x * x) q := by
  rw [← squares_ov h, ← squares_ov (q := (-q.2, -q.1)) (by simp only; omega)]
  simp only
  have h1 := sqTo_neg q.1
  have h2 := sqTo_neg (q.2 + 1)
  rw [show -(q.2 + 1) = -q.2 - 1 by omega, show q.2 + 1 - 1 = q.2 by omega] at h2
  omega
theorem sm_map (F : P2 → Int) (g : P2 → P2) (l : List P2) : sm F (l.map g) = sm (fun q => F (g q)) l := by
  unfold sm
  rw [List.map_map]
  rfl
theorem all_mirrored {hs gs : List P2} (h : Ok hs) (e : gs = hs.map fun q => (-q.1, q.2)) (st : stretches gs = (stretches hs).reverse.map fun q => (-q.2, -q.1)) : allF gs = allF hs := by
  have c := (stretches_ok h).1
  unfold allF
  rw [st, sm_map, sm_rev, sm_congr (G := ov fun x => x * x) fun q hq => ov_mir (c.ne q hq), e, sm_map]
  congr 2
  exact sm_congr fun q _ => by simp only; grind
theorem S_shift (φ : Int → Int) (f k : Int) : ∀ m : Nat, S φ (f + k) m = S (fun x => φ (x + k)) f m
  | 0 => rfl
  | m + 1 => by
    show S φ (f + k) m + φ (f + k + m) = S (fun x => φ (x + k)) f m + φ (f + m + k)
    rw [S_shift φ f k m, show f + k + (m : Int) = f + m + k by omega]
theorem S_congrA {φ ψ : Int → Int} (h : ∀ x, φ x = ψ x) (f : Int) (m : Nat) : S φ f m = S ψ f m := by
  rw [show φ = ψ from funext h]
theorem ov_mv (k : Int) (q : P2) : ov (fun x => x * x) (q.1 + k, q.2 + k) = ov (fun x => x * x) q + (2 * k * ov (fun x => x) q + k * k * ov (fun _ => 1) q) := by
  unfold ov
  simp only
  rw [show q.2 + k - (q.1 + k) + 1 = q.2 - q.1 + 1 by omega, S_shift]
  generalize (q.2 - q.1 + 1).toNat = m
  have h1 := S_lin 1 1 (fun x => x * x) (fun x => 2 * k * x + k * k * 1) q.1 m
  have h2 := S_lin (2 * k) (k * k) (fun x => x) (fun _ => 1) q.1 m
  rw [← h2]
  rw [Int.one_mul, Int.one_mul] at h1
  rw [← h1]
  exact S_congrA (fun x => by grind) _ _
theorem all_moved {hs gs : List P2} (h : Ok hs) (k : Int) (e : gs = hs.map fun q => (q.1 + k, q.2)) (st : stretches gs = (stretches hs).map fun q => (q.1 + k, q.2 + k)) : allF gs = allF hs := by
  obtain ⟨c, es⟩ := stretches_ok h
  obtain ⟨pm, s⟩ := stack_ok h
  have c1 : sm (ov fun _ => 1) (stretches hs) = sm (·.2) hs := by rw [es, sm_congr (G := (·.1)) fun b hb => BT_one (s.ok.pos b hb), s.cnt]
  have c2 : sm (ov fun x => x) (stretches hs) = sm (fun h => h.2 * h.1) hs := by rw [es, sm_congr (G := (·.2)) fun b hb => BT_id (s.ok.pos b hb), s.tot]
  have a : sm (ov fun x => x * x) (stretches gs) = sm (ov fun x => x * x) (stretches hs) + (2 * k * sm (fun h => h.2 * h.1) hs + k * k * sm (·.2) hs) := by
    rw [st, sm_map, sm_congr (G := fun q => ov (fun x => x * x) q + (2 * k * ov (fun x => x) q + k * k * ov (fun _ => 1) q)) fun q _ => ov_mv k q, sm_addF, sm_addF, sm_scale, sm_scale, c1, c2]
  have b : sm (fun h => h.2 * h.1 * h.1) gs = sm (fun h => h.2 * h.1 * h.1) hs + (2 * k * sm (fun h => h.2 * h.1) hs + k * k * sm (·.2) hs) := by
    rw [e, sm_map, sm_congr (G := fun q => q.2 * q.1 * q.1 + (2 * k * (q.2 * q.1) + k * k * q.2)) fun q _ => by simp only; grind, sm_addF, sm_addF, sm_scale, sm_scale]
  unfold allF
  rw [a, b]
  congr 1
  omega
/-! ### each chip by itself -/
def chips (q : P2) : List P2 := (List.range (q.2 - q.1 + 1).toNat).map fun (i : Nat) => (q.1 + (i : Int), (1 : Int))
def chipsOf (ps : List P2) : List P2 := ps.flatMap chips
theorem chips_sm {F : P2 → Int} {φ : Int → Int} (h : ∀ x, F (x, 1) = φ x) (q : P2) : sm F (chips q) = ov φ q := by
  unfold chips ov
  generalize (q.2 - q.1 + 1).toNat = m
  induction m with
  | zero => rfl
  | succ m ih =>
    rw [List.range_succ, List.map_append, sm_append, ih]
    show S φ q.1 m + sm F [(q.1 + (m : Int), 1)] = S φ q.1 m + φ (q.1 + m)
    rw [sm_cons, sm_nil, h]
    omega
theorem chipsOf_sm {F : P2 → Int} {φ : Int → Int} (h : ∀ x, F (x, 1) = φ x) : ∀ ps : List P2, sm F (chipsOf ps) = sm (ov φ) ps
  | [] => rfl
  | q :: r => by
    show sm F (chips q ++ chipsOf r) = _
    rw [sm_append, sm_cons, chips_sm h, chipsOf_sm h r]
theorem chipsOf_ok (ps : List P2) : Ok (chipsOf ps) := by
  intro h hh
  obtain ⟨q, _, hq⟩ := List.mem_flatMap.mp hh
  unfold chips at hq
  obtain ⟨i, _, rfl⟩ := List.mem_map.mp hq
  simp only
  omega
theorem chipsOf_had {ps : List P2} (c : Can ps) (x : Int) : hadF (chipsOf ps) x = hs01 ps x := by
  unfold hadF
  rw [chipsOf_sm (φ := dl x) (fun y => rfl), has_sum c]
  rfl
theorem hadF_app (l m : List P2) (x : Int) : hadF (l ++ m) x = hadF l x + hadF m x := sm_append _ _ _
theorem all_later {ss ms : List P2} (s : Ok ss) (m : Ok ms) : stretches (chipsOf (stretches ss) ++ ms) = stretches (ss ++ ms) ∧ allF (chipsOf (stretches ss) ++ ms) + allF ss = allF (ss ++ ms) ∧ ∀ x, gaveF (ss ++ ms) x = gaveF ss x + gaveF (chipsOf (stretches ss) ++ ms) x := by
  have c := (stretches_ok s).1
  have rs := chipsOf_ok (stretches ss)
  have t : Ok (ss ++ ms) := fun x hx => by rcases List.mem_append.mp hx with hx | hx; exact s x hx; exact m x hx
  have n : Ok (chipsOf (stretches ss) ++ ms) := fun x hx => by rcases List.mem_append.mp hx with hx | hx; exact rs x hx; exact m x hx
  obtain ⟨h1, h2⟩ := later s m rs t n (chipsOf_had c) (hadF_app ss ms) (hadF_app _ ms)
  refine ⟨h2, ?_, h1⟩
  have a1 := allF_two s
  have a2 := allF_two t
  have a3 := allF_two n
  rw [h2, sm_append, chipsOf_sm (φ := fun x => x * x) (fun x => by simp)] at a3
  rw [sm_append] at a2
  omega
theorem chipsOf_len {ss : List P2} (s : Ok ss) : ((chipsOf (stretches ss)).length : Int) = sm (·.2) ss := by
  have c := (stretches_ok s).1
  rw [← stretch_count s]
  have hl : ∀ l : List P2, (l.length : Int) = sm (fun _ => 1) l := by
    intro l
    induction l with
    | nil => rfl
    | cons x r ih => rw [sm_cons, List.length_cons]; omega
  rw [hl, chipsOf_sm (φ := fun _ => 1) (fun _ => rfl)]
  exact sm_congr fun p hp => ov_one (c.ne p hp)
theorem hadF_map_mv (k : Int) (hs : List P2) (x : Int) : hadF (hs.map fun q => (q.1 + k, q.2)) (x + k) = hadF hs x := by
  unfold hadF
  rw [sm_map]
  refine sm_congr fun q _ => ?_
  simp only
  repeat' split
  all_goals omega
theorem hadF_map_mir (hs : List P2) (x : Int) : hadF (hs.map fun q => (-q.1, q.2)) (-x) = hadF hs x := by
  unfold hadF
  rw [sm_map]
  refine sm_congr fun q _ => ?_
  simp only
  repeat' split
  all_goals omega
theorem hadF_rev (hs : List P2) (x : Int) : hadF hs.reverse x = hadF hs x := sm_rev _ _
theorem hadF_cut (hs : List P2) (x : Int) : hadF ((hs.map fun q => (q.1, q.2 / 3)) ++ hs.map fun q => (q.1, q.2 - q.2 / 3)) x = hadF hs x := by
  rw [hadF_app]
  unfold hadF
  rw [sm_map, sm_map, ← sm_addF]
  refine sm_congr fun q _ => ?_
  simp only
  split <;> omega
end Mth

set_option Elab.async false
namespace Mth
/-! ### pairs that have a key each: what a dict of whole numbers holds -/
def putP : List P2 → Int → Int → List P2
  | [], x, v => [(x, v)]
  | q :: r, x, v => if q.1 = x then (x, v) :: r else q :: putP r x v
def Kn (ps : List P2) : Prop := (ps.map (·.1)).Nodup
theorem putP_keys (x v y : Int) : ∀ ps : List P2, y ∈ (putP ps x v).map (·.1) ↔ y = x ∨ y ∈ ps.map (·.1)
  | [] => by simp [putP]
  | q :: r => by
    unfold putP
    split
    · rename_i c
      simp only [List.map_cons, List.mem_cons]
      rw [c]
      constructor
      · rintro (h | h)
        · exact .inl h
        · exact .inr (.inr h)
      · rintro (h | h | h)
        · exact .inl h
        · exact .inl h
        · exact .inr h
    · simp only [List.map_cons, List.mem_cons]
      rw [putP_keys x v y r]
      constructor
      · rintro (h | h | h)
        · exact .inr (.inl h)
        · exact .inl h
        · exact .inr (.inr h)
      · rintro (h | h | h)
        · exact .inr (.inl h)
        · exact .inl h
        · exact .inr (.inr h)
theorem putP_kn {x v : Int} : ∀ {ps : List P2}, Kn ps → Kn (putP ps x v)
  | [], _ => by unfold Kn putP; simp
  | q :: r, h => by
    unfold Kn at *
    rw [List.map_cons, List.nodup_cons] at h
    unfold putP
    split
    · rename_i c
      rw [List.map_cons, List.nodup_cons]
      exact ⟨by rw [← c]; exact h.1, h.2⟩
    · rename_i c
      rw [List.map_cons, List.nodup_cons]
      refine ⟨fun z => ?_, putP_kn h.2⟩
      rcases (putP_keys x v q.1 r).mp z with e | e
      · exact c e
      · exact h.1 e
theorem had_no {x : Int} : ∀ {ps : List P2}, x ∉ ps.map (·.1) → hadF ps x = 0
  | [], _ => rfl
  | q :: r, h => by
    rw [List.map_cons, List.mem_cons] at h
    show sm _ (q :: r) = 0
    rw [sm_cons, if_neg fun e => h (.inl e.symm)]
    have := had_no (ps := r) fun z => h (.inr z)
    unfold hadF at this
    omega
theorem had_cons (q : P2) (r : List P2) (x : Int) : hadF (q :: r) x = (if q.1 = x then q.2 else 0) + hadF r x := by unfold hadF; rw [sm_cons]
theorem had_at {x v : Int} : ∀ {ps : List P2}, Kn ps → (x, v) ∈ ps → hadF ps x = v
  | [], _, h => nomatch h
  | q :: r, k, h => by
    unfold Kn at k
    rw [List.map_cons, List.nodup_cons] at k
    rw [had_cons]
    rcases List.mem_cons.mp h with rfl | h
    · rw [if_pos rfl, had_no k.1]; omega
    · rw [had_at k.2 h, if_neg (fun (e : q.1 = x) => k.1 (e ▸ List.mem_map.mpr ⟨_, h, rfl⟩))]
      omega
def wt (φ : Int → Int) (h : P2) : Int := h.2 * φ h.1
theorem putP_sm (φ : Int → Int) (x v : Int) : ∀ {ps : List P2}, Kn ps → sm (wt φ) (putP ps x v) = sm (wt φ) ps + (v - hadF ps x) * φ x
  | [], _ => by
    show sm (wt φ) [(x, v)] = 0 + (v - 0) * φ x
    rw [sm_cons, sm_nil]
    unfold wt
    simp
  | q :: r, h => by
    unfold Kn at h
    rw [List.map_cons, List.nodup_cons] at h
    rw [had_cons]
    unfold putP
    split
    · rename_i c
      rw [sm_cons, sm_cons, had_no (by rw [← c]; exact h.1)]
      unfold wt
      rw [c]
      grind
    · rw [sm_cons, sm_cons, putP_sm φ x v h.2]
      grind
theorem had_wt (l : List P2) (y : Int) : hadF l y = sm (wt fun z => if z = y then 1 else 0) l := by
  unfold hadF
  refine sm_congr fun q _ => ?_
  unfold wt
  split
  · rename_i c
    simp [c]
  · rename_i c
    simp [c]
theorem had_put {ps : List P2} (h : Kn ps) (x v y : Int) : hadF (putP ps x v) y = if y = x then v else hadF ps y := by
  rw [had_wt, putP_sm _ x v h, ← had_wt]
  by_cases e : y = x
  · subst e; simp; omega
  · rw [if_neg (fun z => e z.symm), if_neg e]; simp
theorem sq2_wt (l : List P2) : sm sq2 l = sm (wt fun x => x * x) l := sm_congr fun q _ => by unfold sq2 wt; rw [Int.mul_assoc]
theorem one_wt (l : List P2) : sm (·.2) l = sm (wt fun _ => 1) l := sm_congr fun q _ => by unfold wt; simp
/-! the same at each place: the same sums -/
theorem S_at (a : P2) (φ : Int → Int) (f : Int) : ∀ m : Nat, S (fun x => (if a.1 = x then a.2 else 0) * φ x) f m = if f ≤ a.1 ∧ a.1 < f + m then a.2 * φ a.1 else 0
  | 0 => by
    show (0 : Int) = _
    rw [if_neg (by omega)]
  | m + 1 => by
    show S (fun x => (if a.1 = x then a.2 else 0) * φ x) f m + (if a.1 = f + m then a.2 else 0) * φ (f + m) = _
    rw [S_at a φ f m]
    by_cases e : a.1 = f + m
    · rw [if_pos e, if_neg (by omega), if_pos (by omega), e]; omega
    · rw [if_neg e]
      by_cases c : f ≤ a.1 ∧ a.1 < f + m
      · rw [if_pos c, if_pos (by omega)]; simp
      · rw [if_neg c, if_neg (by omega)]; simp
theorem S_null (f : Int) : ∀ m : Nat, S (fun _ => 0) f m = 0
  | 0 => rfl
  | m + 1 => by show S (fun _ => 0) f m + 0 = 0; rw [S_null f m]; rfl
theorem had_all (φ : Int → Int) (f : Int) (m : Nat) : ∀ {l : List P2}, (∀ q ∈ l, f ≤ q.1 ∧ q.1 < f + m) → sm (wt φ) l = S (fun x => hadF l x * φ x) f m
  | [], _ => by
    rw [sm_nil, S_congrA (ψ := fun _ => 0) (fun x => by show (0 : Int) * φ x = 0; simp), S_null]
  | a :: r, h => by
    rw [sm_cons, had_all φ f m fun q hq => h q (List.mem_cons_of_mem _ hq)]
    have h1 := S_lin 1 1 (fun x => (if a.1 = x then a.2 else 0) * φ x) (fun x => hadF r x * φ x) f m
    rw [S_at, if_pos (h a List.mem_cons_self), Int.one_mul, Int.one_mul] at h1
    show a.2 * φ a.1 + _ = _
    rw [← h1]
    exact S_congrA (fun x => by rw [had_cons]; grind) _ _
theorem same_wt {l k : List P2} (φ : Int → Int) (h : ∀ x, hadF l x = hadF k x) : sm (wt φ) l = sm (wt φ) k := by
  have sp : ∀ l : List P2, ∃ A B : Int, ∀ q ∈ l, A ≤ q.1 ∧ q.1 ≤ B := by
    intro l
    induction l with
    | nil => exact ⟨0, 0, fun _ h => nomatch h⟩
    | cons a r ih =>
      obtain ⟨A, B, h⟩ := ih
      refine ⟨if A < a.1 then A else a.1, if a.1 < B then B else a.1, fun q hq => ?_⟩
      rcases List.mem_cons.mp hq with rfl | hq
      · constructor <;> split <;> omega
      · have := h q hq
        constructor <;> split <;> omega
  obtain ⟨A, B, hA⟩ := sp (l ++ k)
  rw [had_all φ A (B - A + 1).toNat (l := l) fun q hq => by have := hA q (List.mem_append_left _ hq); omega, had_all φ A (B - A + 1).toNat (l := k) fun q hq => by have := hA q (List.mem_append_right _ hq); omega]
  exact S_congrA (fun x => by rw [h]) _ _
/-! ### giving one by one -/
structure Gv (hs ps ts : List P2) : Prop where
  np : Kn ps
  nt : Kn ts
  lap : ∀ x, hadF ps x = hadF hs x + hadF ts (x - 1) + hadF ts (x + 1) - 2 * hadF ts x
  pos : ∀ x, 0 ≤ hadF ps x
  w0 : ∀ x, 0 ≤ hadF ts x
  wu : ∀ x, hadF ts x ≤ gaveF hs x
  sq : sm sq2 ps = sm sq2 hs + 2 * sm (·.2) ts
def give (ps : List P2) (x : Int) : List P2 :=
  putP (putP (putP ps x (hadF ps x - 2)) (x - 1) (hadF (putP ps x (hadF ps x - 2)) (x - 1) + 1)) (x + 1) (hadF (putP (putP ps x (hadF ps x - 2)) (x - 1) (hadF (putP ps x (hadF ps x - 2)) (x - 1) + 1)) (x + 1) + 1)
theorem give_kn {ps : List P2} (h : Kn ps) (x : Int) : Kn (give ps x) := putP_kn (putP_kn (putP_kn h))
theorem give_had {ps : List P2} (h : Kn ps) (x y : Int) : hadF (give ps x) y = hadF ps y + (if y = x - 1 then 1 else 0) + (if y = x + 1 then 1 else 0) - (if y = x then 2 else 0) := by
  unfold give
  rw [had_put (putP_kn (putP_kn h)), had_put (putP_kn h), had_put (putP_kn h), had_put h, had_put h, had_put h]
  by_cases e1 : y = x + 1
  · subst e1
    rw [if_pos rfl, if_neg (by omega), if_neg (by omega), if_neg (by omega), if_pos rfl, if_neg (by omega)]
    omega
  · rw [if_neg e1]
    by_cases e2 : y = x - 1
    · subst e2
      rw [if_pos rfl, if_neg (by omega), if_pos rfl, if_neg (by omega), if_neg (by omega)]
      omega
    · rw [if_neg e2]
      by_cases e3 : y = x
      · subst e3
        rw [if_pos rfl, if_neg (by omega), if_neg (by omega), if_pos rfl]
        omega
      · rw [if_neg e3, if_neg e2, if_neg e1, if_neg e3]
        omega
theorem give_sq {ps : List P2} (h : Kn ps) (x : Int) : sm sq2 (give ps x) = sm sq2 ps + 2 := by
  unfold give
  rw [sq2_wt, putP_sm _ _ _ (putP_kn (putP_kn h)), putP_sm _ _ _ (putP_kn h), putP_sm _ _ _ h, sq2_wt]
  grind
theorem give_keys {ps : List P2} {x y : Int} (hy : y ∈ (give ps x).map (·.1)) : y = x - 1 ∨ y = x ∨ y = x + 1 ∨ y ∈ ps.map (·.1) := by
  unfold give at hy
  rcases (putP_keys _ _ _ _).mp hy with e | hy
  · exact .inr (.inr (.inl e))
  · rcases (putP_keys _ _ _ _).mp hy with e | hy
    · exact .inl e
    · rcases (putP_keys _ _ _ _).mp hy with e | hy
      · exact .inr (.inl e)
      · exact .inr (.inr (.inr hy))
theorem Gv.less {hs ps ts : List P2} (ok : Ok hs) (g : Gv hs ps ts) {x : Int} (h : 2 ≤ hadF ps x) : hadF ts x < gaveF hs x := by
  have h1 := g.lap x
  have h2 := gave_lap1 ok x
  have h3 := g.wu x
  have h4 := g.wu (x - 1)
  have h5 := g.wu (x + 1)
  omega
theorem Gv.step {hs ps ts : List P2} (ok : Ok hs) (g : Gv hs ps ts) {x : Int} (h : 2 ≤ hadF ps x) : Gv hs (give ps x) (putP ts x (hadF ts x + 1)) := by
  have l := g.less ok h
  have ht := fun y => had_put g.nt x (hadF ts x + 1) y
  refine ⟨give_kn g.np x, putP_kn g.nt, fun y => ?_, fun y => ?_, fun y => ?_, fun y => ?_, ?_⟩
  · rw [give_had g.np, ht, ht, ht, g.lap y]
    by_cases e1 : y = x - 1
    · subst e1
      rw [if_pos rfl, if_neg (by omega), if_neg (by omega), if_neg (by omega), if_pos (by omega), if_neg (by omega), show x - 1 + 1 = x by omega]
      omega
    · by_cases e2 : y = x + 1
      · subst e2
        rw [if_neg e1, if_pos rfl, if_neg (by omega), if_pos (by omega), if_neg (by omega), if_neg (by omega), show x + 1 - 1 = x by omega]
        omega
      · by_cases e3 : y = x
        · subst e3
          rw [if_neg e1, if_neg e2, if_pos rfl, if_neg (by omega), if_neg (by omega), if_pos rfl]
          omega
        · rw [if_neg e1, if_neg e2, if_neg e3, if_neg (by omega), if_neg (by omega), if_neg e3]
          omega
  · rw [give_had g.np]
    have := g.pos y
    repeat' split
    all_goals first | omega | (subst_vars; omega)
  · rw [ht]
    have := g.w0 y
    have := g.w0 x
    split <;> omega
  · rw [ht]
    have := g.wu y
    split
    · rename_i e
      rw [e]
      omega
    · exact this
  · rw [give_sq g.np, g.sq, one_wt, one_wt, putP_sm _ _ _ g.nt]
    omega
theorem Gv.done {hs ps ts : List P2} (ok : Ok hs) (g : Gv hs ps ts) (h : ∀ x, hadF ps x ≤ 1) : (∀ x, hadF ts x = gaveF hs x) ∧ (∀ x, hadF ps x = hs01 (stretches hs) x) ∧ sm (·.2) ts = allF hs := by
  have e : ∀ x, hadF ts x = gaveF hs x := fun x => by
    have h1 := least ok g.w0 (fun y => by have := g.lap y; have := h y; omega) x
    have := g.wu x
    omega
  have e2 : ∀ x, hadF ps x = hs01 (stretches hs) x := fun x => by rw [g.lap, e, e, e, ← gave_lap' ok]
  refine ⟨e, e2, ?_⟩
  have a := allF_two ok
  have c := (stretches_ok ok).1
  have b := same_wt (fun x => x * x) (l := ps) (k := chipsOf (stretches hs)) fun x => by rw [e2, chipsOf_had c]
  rw [← sq2_wt, chipsOf_sm (φ := fun x => x * x) (fun x => by unfold wt; simp)] at b
  have s := g.sq
  have : sm sq2 hs = sm (fun h => h.2 * h.1 * h.1) hs := rfl
  omega
/-- what is read in first -/
structure Rd0 (l ps : List P2) : Prop where
  np : Kn ps
  wt : ∀ φ, sm (wt φ) ps = sm (wt φ) l
  keys : ∀ y ∈ ps.map (·.1), y ∈ l.map (·.1)
theorem Rd0.nil : Rd0 [] [] := ⟨List.nodup_nil, fun _ => rfl, fun _ h => h⟩
theorem Rd0.had {l ps : List P2} (h : Rd0 l ps) (x : Int) : hadF ps x = hadF l x := by rw [had_wt, had_wt, h.wt]
theorem Rd0.snoc {l ps : List P2} (h : Rd0 l ps) (q : P2) : Rd0 (l ++ [q]) (putP ps q.1 (hadF ps q.1 + q.2)) := by
  refine ⟨putP_kn h.np, fun φ => ?_, fun y hy => ?_⟩
  · rw [putP_sm _ _ _ h.np, sm_append, sm_cons, sm_nil, h.wt]
    unfold Mth.wt
    grind
  · rw [List.map_append, List.mem_append]
    rcases (putP_keys _ _ _ _).mp hy with e | e
    · exact .inr (by simp [e])
    · exact .inl (h.keys y e)
theorem Gv.start {hs ps : List P2} (ok : Ok hs) (r : Rd0 hs ps) : Gv hs ps [] := by
  refine ⟨r.np, List.nodup_nil, fun x => ?_, fun x => ?_, fun _ => Int.le_refl _, fun x => gaveF_nonneg ok x, ?_⟩
  · rw [r.had]
    show _ = hadF hs x + 0 + 0 - 2 * 0
    omega
  · rw [r.had]
    clear r
    unfold hadF
    induction hs with
    | nil => exact Int.le_refl _
    | cons a l ih =>
      rw [sm_cons]
      have := ok a List.mem_cons_self
      have := ih fun b hb => ok b (List.mem_cons_of_mem _ hb)
      split <;> omega
  · rw [sq2_wt, r.wt, ← sq2_wt]
    show _ = _ + 2 * 0
    omega
/-- how much is left to give -/
def todo (hs ts : List P2) : Int := S (fun x => gaveF hs x - hadF ts x) (-20) 51
theorem S_pos {φ : Int → Int} (h : ∀ x, 0 ≤ φ x) (f : Int) : ∀ m : Nat, 0 ≤ S φ f m
  | 0 => Int.le_refl _
  | m + 1 => by
    show 0 ≤ S φ f m + φ (f + m)
    have := S_pos h f m
    have := h (f + m)
    omega
theorem Gv.todo0 {hs ps ts : List P2} (g : Gv hs ps ts) : 0 ≤ todo hs ts := S_pos (fun x => by have := g.wu x; omega) _ _
theorem todo_put {hs ps ts : List P2} (g : Gv hs ps ts) {x : Int} (h1 : -20 ≤ x) (h2 : x < 31) : todo hs (putP ts x (hadF ts x + 1)) = todo hs ts - 1 := by
  unfold todo
  have h3 := S_lin 1 (-1) (fun x => gaveF hs x - hadF ts x) (dl x) (-20) 51
  rw [S_dl, if_pos (by omega)] at h3
  rw [S_congrA (ψ := fun y => 1 * (gaveF hs y - hadF ts y) + -1 * dl x y) (fun y => by
    rw [had_put g.nt]
    unfold dl
    by_cases e : y = x
    · rw [if_pos e, if_pos e, e]; omega
    · rw [if_neg e, if_neg e]; omega), h3]
  omega
/-- keys of a short stretch of places are few -/
theorem few_keys : ∀ (n : Nat) (f : Int) (l : List Int), l.Nodup → (∀ x ∈ l, f ≤ x ∧ x < f + n) → l.length ≤ n
  | 0, f, l, _, h => by
    cases l with
    | nil => exact Nat.le_refl _
    | cons a r => have := h a List.mem_cons_self; omega
  | n + 1, f, l, hn, h => by
    have ih := few_keys n f (l.filter fun x => decide (x ≠ f + n)) (hn.filter _) fun x hx => by
      obtain ⟨h1, h2⟩ := List.mem_filter.mp hx
      have := h x h1
      have := of_decide_eq_true h2
      omega
    have key : ∀ l : List Int, l.Nodup → l.length ≤ (l.filter fun x => decide (x ≠ f + n)).length + 1 := by
      intro l
      induction l with
      | nil => intro _; exact Nat.zero_le _
      | cons a r ih =>
        intro hn
        obtain ⟨n1, n2⟩ := List.nodup_cons.mp hn
        by_cases c : a = f + n
        · rw [List.filter_cons_of_neg (by simpa using c)]
          have : r.filter (fun x => decide (x ≠ f + n)) = r := List.filter_eq_self.mpr fun x hx => by
            rw [decide_eq_true_eq]
            intro z
            exact n1 (c ▸ z ▸ hx)
          rw [this, List.length_cons]
          exact Nat.le_refl _
        · rw [List.filter_cons_of_pos (by simpa using c), List.length_cons, List.length_cons]
          have := ih n2
          omega
    have := key l hn
    omega
end Mth

set_option Elab.async false
namespace Mth
/-! ### few heaps near one another stay near -/
def Mn (b : P2) : Prop := -7 * b.1 ≤ b.2 ∧ b.2 ≤ 6 * b.1
theorem push_mn : ∀ {st : List P2} {b : P2}, (∀ a ∈ st, Mn a) → Mn b → ∀ c ∈ push st b, Mn c
  | [], b, _, hb, c, hc => by
    rcases List.mem_singleton.mp hc with rfl
    exact hb
  | a :: r, b, h, hb, c, hc => by
    have ha := h a List.mem_cons_self
    unfold push at hc
    split at hc
    · refine push_mn (st := r) (b := bAdd a b) (fun x hx => h x (List.mem_cons_of_mem _ hx)) ?_ c hc
      obtain ⟨a1, a2⟩ := ha
      obtain ⟨b1, b2⟩ := hb
      constructor
      · show -7 * (a.1 + b.1) ≤ a.2 + b.2
        omega
      · show a.2 + b.2 ≤ 6 * (a.1 + b.1)
        omega
    · rcases List.mem_cons.mp hc with rfl | hc
      · exact hb
      · exact h c hc
theorem fold_mn : ∀ {l st : List P2}, (∀ a ∈ st, Mn a) → (∀ q ∈ l, 0 ≤ q.2 ∧ -7 ≤ q.1 ∧ q.1 ≤ 6) → ∀ c ∈ l.foldl pushH st, Mn c
  | [], _, h, _ => h
  | q :: r, st, h, hl => by
    rw [List.foldl_cons]
    refine fold_mn ?_ fun x hx => hl x (List.mem_cons_of_mem _ hx)
    unfold pushH
    split
    · obtain ⟨q0, q1, q2⟩ := hl q List.mem_cons_self
      refine push_mn h ⟨?_, ?_⟩
      · show -7 * q.2 ≤ q.2 * q.1
        rw [Int.mul_comm]
        exact Int.mul_le_mul_of_nonneg_left q1 q0
      · show q.2 * q.1 ≤ 6 * q.2
        rw [Int.mul_comm 6]
        exact Int.mul_le_mul_of_nonneg_left q2 q0
    · exact h
theorem block_span {hs : List P2} (ok : Ok hs) (hp : ∀ q ∈ hs, -7 ≤ q.1 ∧ q.1 ≤ 6) (hc : sm (·.2) hs ≤ 19) {b : P2} (hb : b ∈ stack hs) : -16 ≤ bFirst b ∧ bEnd b ≤ 26 := by
  obtain ⟨pm, s⟩ := stack_ok ok
  have mn : Mn b := fold_mn (st := []) (fun _ h => nomatch h) (fun q hq => by
    have hq := (sortP_perm hs).mem_iff.mp hq
    exact ⟨ok q hq, hp q hq⟩) b hb
  obtain ⟨m1, m2⟩ := mn
  have n0 := s.ok.pos b hb
  have n1 : b.1 ≤ 19 := by
    have key : ∀ l : List P2, (∀ a ∈ l, 0 < a.1) → b ∈ l → b.1 ≤ sm (·.1) l := by
      intro l
      induction l with
      | nil => intro _ h; exact nomatch h
      | cons a r ih =>
        intro hl hb
        rw [sm_cons]
        have ha := hl a List.mem_cons_self
        have hr : ∀ a ∈ r, 0 < a.1 := fun a ha => hl a (List.mem_cons_of_mem _ ha)
        rcases List.mem_cons.mp hb with rfl | hb
        · have : 0 ≤ sm (·.1) r := by
            clear ih hl hb
            induction r with
            | nil => exact Int.le_refl _
            | cons a r ih =>
              rw [sm_cons]
              have := hr a List.mem_cons_self
              have := ih fun a ha => hr a (List.mem_cons_of_mem _ ha)
              omega
          omega
        · have := ih hr hb
          omega
    have := key _ s.ok.pos hb
    rw [s.cnt] at this
    omega
  have g := bGap_bounds n0
  have he : bEnd b ≤ bFirst b + b.1 := by
    unfold bEnd
    unfold bLast at *
    split <;> omega
  have sq : 0 ≤ b.1 * (b.1 + 1) ∧ b.1 * (b.1 + 1) ≤ 20 * b.1 := by
    refine ⟨Int.mul_nonneg (by omega) (by omega), ?_⟩
    rw [Int.mul_comm 20]
    exact Int.mul_le_mul_of_nonneg_left (by omega) (by omega)
  have f1 : -17 ≤ (b.2 - b.1 * (b.1 + 1) / 2) / b.1 := Int.le_ediv_of_mul_le n0 (by omega)
  have f2 : (b.2 - b.1 * (b.1 + 1) / 2) / b.1 ≤ 6 := by
    have : (b.2 - b.1 * (b.1 + 1) / 2) / b.1 < 7 := Int.ediv_lt_of_lt_mul n0 (by omega)
    omega
  unfold bFirst at *
  omega
theorem gave_span {hs : List P2} (ok : Ok hs) (hp : ∀ q ∈ hs, -7 ≤ q.1 ∧ q.1 ≤ 6) (hc : sm (·.2) hs ≤ 19) {x : Int} (hx : 0 < gaveF hs x) : -15 ≤ x ∧ x ≤ 25 := by
  obtain ⟨b, hb, b1, b2⟩ := gave_in ok hx
  have := block_span ok hp hc hb
  omega
theorem sm_le {F : P2 → Int} {B : Int} : ∀ {l : List P2}, (∀ q ∈ l, F q ≤ B) → sm F l ≤ B * (l.length : Int)
  | [], _ => by simp [sm]
  | a :: r, h => by
    rw [sm_cons, List.length_cons]
    have h1 := h a List.mem_cons_self
    have h2 := sm_le (l := r) fun q hq => h q (List.mem_cons_of_mem _ hq)
    have : B * ((r.length + 1 : Nat) : Int) = B * (r.length : Int) + B := by
      rw [show ((r.length + 1 : Nat) : Int) = (r.length : Int) + 1 by omega, Int.mul_add, Int.mul_one]
    omega
theorem S_le {φ : Int → Int} {B f : Int} (hB : 0 ≤ B) : ∀ {m : Nat}, (∀ x, f ≤ x → x < f + m → φ x ≤ B) → S φ f m ≤ B * (m : Int)
  | 0, _ => by show (0 : Int) ≤ _; simp
  | m + 1, h => by
    show S φ f m + φ (f + m) ≤ _
    have h1 := S_le hB (m := m) fun x h1 h2 => h x h1 (by omega)
    have h2 := h (f + m) (by omega) (by omega)
    have : B * ((m + 1 : Nat) : Int) = B * (m : Int) + B := by
      rw [show ((m + 1 : Nat) : Int) = (m : Int) + 1 by omega, Int.mul_add, Int.mul_one]
    omega
theorem chips_mem {l : List P2} {h : P2} (hh : h ∈ chipsOf l) : h.2 = 1 ∧ ∃ q ∈ l, q.1 ≤ h.1 ∧ h.1 ≤ q.2 := by
  obtain ⟨q, hq, hc⟩ := List.mem_flatMap.mp hh
  unfold chips at hc
  obtain ⟨i, hi, rfl⟩ := List.mem_map.mp hc
  have := List.mem_range.mp hi
  exact ⟨rfl, q, hq, by simp only; omega, by simp only; omega⟩
theorem gave_le {hs : List P2} (ok : Ok hs) (hc : sm (·.2) hs ≤ 19) (sp : ∀ q ∈ stretches hs, -16 ≤ q.1 ∧ q.2 ≤ 26) {p : Int} (hp : p ≤ 30) : gaveF hs p ≤ 950 := by
  have a : sm (ov (Ph p)) (stretches hs) = sm (wt (Ph p)) (chipsOf (stretches hs)) := (chipsOf_sm (φ := Ph p) (fun x => by unfold wt; simp) _).symm
  have l := chipsOf_len ok
  have b := sm_le (F := wt (Ph p)) (B := 46) (l := chipsOf (stretches hs)) fun h hh => by
    obtain ⟨h1, q, hq, h2, h3⟩ := chips_mem hh
    have := sp q hq
    unfold wt Ph ph
    rw [h1]
    split <;> omega
  have c : 0 ≤ sm (Mth.hp (Ph p)) hs := by
    clear a b l sp hc
    induction hs with
    | nil => exact Int.le_refl _
    | cons x r ih =>
      rw [sm_cons]
      have h0 := ok x List.mem_cons_self
      have := ih fun y hy => ok y (List.mem_cons_of_mem _ hy)
      have : 0 ≤ Mth.hp (Ph p) x := by
        unfold Mth.hp
        refine Int.mul_nonneg h0 ?_
        unfold Ph ph
        split <;> omega
      omega
  unfold gaveF
  omega
theorem todo_le {hs : List P2} (ok : Ok hs) (hc : sm (·.2) hs ≤ 19) (sp : ∀ q ∈ stretches hs, -16 ≤ q.1 ∧ q.2 ≤ 26) : todo hs [] ≤ 48450 := by
  unfold todo
  have := S_le (φ := fun x => gaveF hs x - hadF [] x) (B := 950) (f := -20) (m := 51) (by decide) fun x h1 h2 => by
    have := gave_le ok hc sp (p := x) (by omega)
    show gaveF hs x - 0 ≤ 950
    omega
  omega
end Mth

set_option Elab.async false
set_option linter.all false
set_option maxRecDepth 100000
set_option maxHeartbeats 4000000
namespace Sp
open PySem L2 Mth
open Evl (Ex)

/-! ### pairs in the heap -/
abbrev II (p : P2) : HO := .tup [.int p.1, .int p.2]
def Tp (H : Hp) (v : V) (p : P2) : Prop := ∃ t, v = .ref t ∧ H t = some (II p)
abbrev Tps (H : Hp) : List V → List P2 → Prop := Paired (Tp H)
/-- a list of pairs at a -/
def PL (H : Hp) (a : Addr) (ps : List P2) : Prop := ∃ vs, H a = some (.lst vs) ∧ Tps H vs ps
section
variable {H H' : Hp} {v : V} {p q : P2} {vs ws : List V} {ps qs : List P2} {a l : Addr}
theorem Tp.mono (e : Ex H H') (h : Tp H v p) : Tp H' v p := by
  obtain ⟨t, e1, e2⟩ := h
  exact ⟨t, e1, e t _ e2⟩
theorem Tps.mono (e : Ex H H') (h : Tps H vs ps) : Tps H' vs ps := Paired.mapP h fun _ _ => Tp.mono e
theorem PL.mono (e : Ex H H') (h : PL H a ps) : PL H' a ps := by
  obtain ⟨vs, e1, e2⟩ := h
  exact ⟨vs, e a _ e1, Tps.mono e e2⟩
/-- a list may change, pairs stay -/
theorem Tp.upd {xs ys : List V} (hl : H l = some (.lst xs)) (h : Tp H v p) : Tp (L2.upd H l (.lst ys)) v p := by
  obtain ⟨t, e1, e2⟩ := h
  exact ⟨t, e1, by rw [upd_ne (ne_of e2 hl (by intro z; cases z))]; exact e2⟩
theorem Tps.upd {xs ys : List V} (hl : H l = some (.lst xs)) (h : Tps H vs ps) : Tps (L2.upd H l (.lst ys)) vs ps := Paired.mapP h fun _ _ => Tp.upd hl
theorem PL.upd {xs ys : List V} (hl : H l = some (.lst xs)) (h : PL H a ps) (ne : a ≠ l) : PL (L2.upd H l (.lst ys)) a ps := by
  obtain ⟨vs, e1, e2⟩ := h
  exact ⟨vs, by rw [upd_ne ne]; exact e1, e2.upd hl⟩
theorem pr_len {α β : Type} {F : α → β → Prop} {xs : List α} {ys : List β} (h : Paired F xs ys) : xs.length = ys.length := Paired.length h
theorem pr_get {α β : Type} {F : α → β → Prop} : ∀ {xs : List α} {ys : List β} {i : Nat} {x : α}, Paired F xs ys → xs[i]? = some x → ∃ y, ys[i]? = some y ∧ F x y
  | _, _, _, _, .nil, e => by simp at e
  | _, _, 0, _, .cons r _, e => by simp at e; subst e; exact ⟨_, rfl, r⟩
  | _, _, i + 1, x, .cons _ t, e => by
    obtain ⟨u, h1, h2⟩ := pr_get (i := i) (x := x) t (by simpa using e)
    exact ⟨u, by simpa using h1, h2⟩
theorem pr_get2 {α β : Type} {F : α → β → Prop} : ∀ {xs : List α} {ys : List β} {i : Nat} {y : β}, Paired F xs ys → ys[i]? = some y → ∃ x, xs[i]? = some x ∧ F x y
  | _, _, _, _, .nil, e => by simp at e
  | _, _, 0, _, .cons r _, e => by simp at e; subst e; exact ⟨_, rfl, r⟩
  | _, _, i + 1, x, .cons _ t, e => by
    obtain ⟨u, h1, h2⟩ := pr_get2 (i := i) (y := x) t (by simpa using e)
    exact ⟨u, by simpa using h1, h2⟩
theorem pr_app {α β : Type} {F : α → β → Prop} : ∀ {xs xs' : List α} {ys ys' : List β}, Paired F xs ys → Paired F xs' ys' → Paired F (xs ++ xs') (ys ++ ys')
  | _, _, _, _, .nil, s => s
  | _, _, _, _, .cons r t, s => .cons r (pr_app t s)
theorem pr_take {α β : Type} {F : α → β → Prop} : ∀ {xs : List α} {ys : List β} (n : Nat), Paired F xs ys → Paired F (xs.take n) (ys.take n)
  | _, _, 0, _ => .nil
  | _, _, _ + 1, .nil => .nil
  | _, _, n + 1, .cons r t => .cons r (pr_take n t)
theorem pr_drop {α β : Type} {F : α → β → Prop} : ∀ {xs : List α} {ys : List β} (n : Nat), Paired F xs ys → Paired F (xs.drop n) (ys.drop n)
  | _, _, 0, r => r
  | _, _, _ + 1, .nil => .nil
  | _, _, n + 1, .cons _ t => pr_drop n t
theorem pr_rev {α β : Type} {F : α → β → Prop} : ∀ {xs : List α} {ys : List β}, Paired F xs ys → Paired F xs.reverse ys.reverse
  | _, _, .nil => .nil
  | _, _, .cons r t => by
    rw [List.reverse_cons, List.reverse_cons]
    exact pr_app (pr_rev t) (.cons r .nil)
theorem pr_set {α β : Type} {F : α → β → Prop} : ∀ {xs : List α} {ys : List β} (n : Nat) {x : α} {y : β}, Paired F xs ys → F x y → Paired F (xs.set n x) (ys.set n y)
  | _, _, _, _, _, .nil, _ => .nil
  | _, _, 0, _, _, .cons _ t, h => .cons h t
  | _, _, n + 1, _, _, .cons r t, h => .cons r (pr_set n t h)
theorem Ex_upd_new {o : HO} (h : H l = none) : Ex H (L2.upd H l o) := Evl.Ex.new h
theorem Ex.free (e : Ex H H') (h : H' l = none) : H l = none := Evl.fresh_back e h

/-! ### == of lists of pairs -/
def tD (p : P2) : PyData := .tuple [.int p.1, .int p.2]
theorem tp_dp {K : PySem.W.Frag} (h : Tp H v p) : Dp K H v (tD p) := by
  obtain ⟨t, rfl, e⟩ := h
  exact .tup (SqT.of e) (.cons (.int _) (.cons (.int _) .nil))
theorem tps_dp {K : PySem.W.Frag} : ∀ {vs : List V} {ps : List P2}, Tps H vs ps → DpAll K H vs (ps.map tD)
  | _, _, .nil => .nil
  | _, _, .cons r t => .cons (tp_dp r) (tps_dp t)
theorem pl_dp {K : PySem.W.Frag} (h : PL H a ps) : Dp K H (.ref a) (.list (ps.map tD)) := by
  obtain ⟨vs, e1, e2⟩ := h
  exact .lst (SqL.of e1) (tps_dp e2)
theorem eqv_tD (p q : P2) : PyData.eqv (tD p) (tD q) = decide (p = q) := by
  obtain ⟨a, b⟩ := p
  obtain ⟨c, d⟩ := q
  unfold tD
  simp only [PyData.eqv, PyData.eqvAll, Bool.and_true]
  rw [Bool.eq_iff_iff]
  simp
theorem eqv_all : ∀ ps qs : List P2, PyData.eqvAll (ps.map tD) (qs.map tD) = decide (ps = qs)
  | [], [] => by simp [PyData.eqvAll]
  | [], _ :: _ => by simp [PyData.eqvAll]
  | _ :: _, [] => by simp [PyData.eqvAll]
  | x :: xs, y :: ys => by
    rw [List.map_cons, List.map_cons, PyData.eqvAll, eqv_tD x y, eqv_all xs ys, ← Bool.decide_and]
    exact decide_eq_decide.mpr (by rw [List.cons.injEq])
theorem eqv_pl (ps qs : List P2) : PyData.eqv (.list (ps.map tD)) (.list (qs.map tD)) = decide (ps = qs) := by
  simp only [PyData.eqv]
  exact eqv_all ps qs
theorem lay_all : ∀ ps : List P2, PyData.canLayAll0 (ps.map tD) = true
  | [] => rfl
  | x :: xs => by
    rw [List.map_cons, PyData.canLayAll0, lay_all xs]
    rfl
theorem dep_all : ∀ ps : List P2, PyData.depthAll (ps.map tD) ≤ 1
  | [] => Nat.zero_le _
  | x :: xs => by
    rw [List.map_cons, PyData.depthAll]
    refine Nat.max_le.mpr ⟨?_, dep_all xs⟩
    unfold tD
    simp [PyData.depth, PyData.depthAll]
theorem shp (ps : List P2) : SeqAt.shaped (.list (ps.map tD)) = true := by
  unfold SeqAt.shaped
  rw [Bool.and_eq_true]
  refine ⟨?_, decide_eq_true ?_⟩
  · show PyData.canLay0 (.list (ps.map tD)) = true
    rw [PyData.canLay0]
    exact lay_all ps
  · rw [PyData.depth]
    have := dep_all ps
    omega
theorem eq_PL {K : PySem.W.Frag} {b : Addr} {Q : VK} (h1 : PL H a ps) (h2 : PL H b qs) (k : Q (.bl (decide (ps = qs))) H) : rEqD K (.ref a) (.ref b) H Q :=
  ⟨_, _, pl_dp h1, pl_dp h2, shp ps, shp qs, by rw [eqv_pl]; exact k⟩
theorem ne_PL {K : PySem.W.Frag} {b : Addr} {Q : VK} (h1 : PL H a ps) (h2 : PL H b qs) (k : Q (.bl (!decide (ps = qs))) H) : rNeD K (.ref a) (.ref b) H Q :=
  ⟨_, _, pl_dp h1, pl_dp h2, shp ps, shp qs, by rw [eqv_pl]; exact k⟩
end

/-! ### a def that may be called by its name -/
structure Cl (P : Program) (w : World) (K : PySem.W.Frag) (mg : Str → Option Value) (base : Heap) (nm : Str) (k : Nat) (ps : List Str) (sp : Sp) (f : Addr) (fd : FuncData) : Prop where
  F : FnOk P w K mg base CX0 k f fd ps sp
  g : mg nm = some (.ref f)
  kp : PySem.W.keepIn K (.ref f) = true
  b : Binds K fd ps []

/-! ### values of whole numbers -/
section
variable {σ : St} {H : Hp} {ta tb te tc : TE} {x y : V} {v : V} {i : Nat} {D : Ends} {tz t1 t2 : TS} {t u : TT} {b c : Bool}
theorem v_op0 {g : Int → Int → V} {i j : Int} (ha : Val ta σ H (.int i)) (hb : Val tb σ H (.int j)) : Val (tOp (rI0 g) ta tb) σ H (g i j) := val_op ha hb fun _ q => ⟨i, j, rfl, rfl, q⟩
theorem v_op {C : Int → Int → Prop} {g : Int → Int → V} {i j : Int} (ha : Val ta σ H (.int i)) (hb : Val tb σ H (.int j)) (hc : C i j) : Val (tOp (rI C g) ta tb) σ H (g i j) := val_op ha hb fun _ q => ⟨i, j, rfl, rfl, hc, q⟩
theorem v_neg {i : Int} (ha : Val ta σ H (.int i)) : Val (tUn (rU fun i => .int (-i)) ta) σ H (.int (-i)) := fun _ q => ha _ ⟨i, rfl, q⟩
theorem v_is (h : Val te σ H x) (e : x = y) : Val te σ H y := e ▸ h
theorem v_and {a b : Bool} (h1 : Val ta σ H (.bl a)) (h2 : a = true → Val tb σ H (.bl b)) : Val (tAndV ta tb) σ H (.bl (a && b)) := fun Q q => h1 _ ⟨a, rfl, by
  cases a with
  | true => exact h2 rfl Q q
  | false => exact q⟩
theorem v_or {a b : Bool} (h1 : Val ta σ H (.bl a)) (h2 : a = false → Val tb σ H (.bl b)) : Val (tOrV ta tb) σ H (.bl (a || b)) := fun Q q => h1 _ ⟨a, rfl, by
  cases a with
  | true => exact q
  | false => exact h2 rfl Q q⟩
theorem v_not {a : Bool} (h : Val ta σ H (.bl a)) : Val (tNotV ta) σ H (.bl (!a)) := fun Q q => h _ ⟨a, rfl, q⟩
theorem v_eq (ha : Val ta σ H x) (hb : Val tb σ H y) (hs : scal x y = true) : Val (tOp rEq ta tb) σ H (.bl (decide (x = y))) := val_op ha hb fun _ q => ⟨hs, q⟩
theorem v_ne (ha : Val ta σ H x) (hb : Val tb σ H y) (hs : scal x y = true) : Val (tOp rNe ta tb) σ H (.bl (!decide (x = y))) := val_op ha hb fun _ q => ⟨hs, q⟩
theorem v_tup {K : PySem.W.Frag} {a : Addr} {xs : List V} {i : Int} (ha : Val ta σ H (.ref a)) (hb : Val tb σ H (.int i)) (h : H a = some (.tup xs)) (hi : atI xs i = some v) : Val (tOp (rIxT K) ta tb) σ H v := val_op ha hb fun _ q => ⟨a, xs, i, v, rfl, rfl, SqT.of h, hi, q⟩
theorem v_lst {K : PySem.W.Frag} {a : Addr} {xs : List V} {i : Int} (ha : Val ta σ H (.ref a)) (hb : Val tb σ H (.int i)) (h : H a = some (.lst xs)) (hi : atI xs i = some v) : Val (tOp (rIxL K) ta tb) σ H v := val_op ha hb fun _ q => ⟨a, xs, i, v, rfl, rfl, SqL.of h, hi, q⟩
theorem v_lstq {K : PySem.W.Frag} {a : Addr} {xs : List V} {i : Int} (ha : Val ta σ H (.ref a)) (hb : Val tb σ H (.int i)) (h : SqL K H a xs) (hi : atI xs i = some v) : Val (tOp (rIxL K) ta tb) σ H v := val_op ha hb fun _ q => ⟨a, xs, i, v, rfl, rfl, h, hi, q⟩
theorem v_if (h : Ans t σ H b) (h1 : b = true → Val ta σ H v) (h2 : b = false → Val tb σ H v) : Val (tIf t ta tb) σ H v := fun Q q => h _ (by
  cases b with
  | true => exact h1 rfl Q q
  | false => exact h2 rfl Q q)
theorem a_val (h : Val te σ H (.bl b)) : Ans (tTest te) σ H b := fun _ q => h _ ⟨b, rfl, q⟩
theorem a_valB (h : Val te σ H (.bl b)) : Ans (tB te) σ H b := fun _ q => h _ ⟨b, rfl, q⟩
theorem a_and {a b : Bool} (h1 : Ans t σ H a) (h2 : a = true → Ans u σ H b) : Ans (tAnd t u) σ H (a && b) := fun Q q => h1 _ (by
  cases a with
  | true => exact h2 rfl Q q
  | false => exact q)
theorem a_or {a b : Bool} (h1 : Ans t σ H a) (h2 : a = false → Ans u σ H b) : Ans (tOr t u) σ H (a || b) := fun Q q => h1 _ (by
  cases a with
  | true => exact q
  | false => exact h2 rfl Q q)
theorem v_add {i j : Int} (ha : Val ta σ H (.int i)) (hb : Val tb σ H (.int j)) : Val (tOp (rI0 fun i j => .int (i + j)) ta tb) σ H (.int (i + j)) := v_op0 (g := fun i j => .int (i + j)) ha hb
theorem v_sub {i j : Int} (ha : Val ta σ H (.int i)) (hb : Val tb σ H (.int j)) : Val (tOp (rI0 fun i j => .int (i - j)) ta tb) σ H (.int (i - j)) := v_op0 (g := fun i j => .int (i - j)) ha hb
theorem v_lt {i j : Int} (ha : Val ta σ H (.int i)) (hb : Val tb σ H (.int j)) : Val (tOp (rI0 fun i j => .bl (decide (i < j))) ta tb) σ H (.bl (decide (i < j))) := v_op0 (g := fun i j => .bl (decide (i < j))) ha hb
theorem v_le {i j : Int} (ha : Val ta σ H (.int i)) (hb : Val tb σ H (.int j)) : Val (tOp (rI0 fun i j => .bl (decide (i ≤ j))) ta tb) σ H (.bl (decide (i ≤ j))) := v_op0 (g := fun i j => .bl (decide (i ≤ j))) ha hb
theorem v_gt {i j : Int} (ha : Val ta σ H (.int i)) (hb : Val tb σ H (.int j)) : Val (tOp (rI0 fun i j => .bl (decide (j < i))) ta tb) σ H (.bl (decide (j < i))) := v_op0 (g := fun i j => .bl (decide (j < i))) ha hb
theorem v_ge {i j : Int} (ha : Val ta σ H (.int i)) (hb : Val tb σ H (.int j)) : Val (tOp (rI0 fun i j => .bl (decide (j ≤ i))) ta tb) σ H (.bl (decide (j ≤ i))) := v_op0 (g := fun i j => .bl (decide (j ≤ i))) ha hb
theorem v_mul {i j : Int} (ha : Val ta σ H (.int i)) (hb : Val tb σ H (.int j)) (hc : CMul i j) : Val (tOp (rI CMul fun i j => .int (i * j)) ta tb) σ H (.int (i * j)) := v_op (g := fun i j => .int (i * j)) ha hb hc
theorem v_mulW {i j : Int} (ha : Val ta σ H (.int i)) (hb : Val tb σ H (.int j)) (hc : CMulW i j) : Val (tOp (rI CMulW fun i j => .int (i * j)) ta tb) σ H (.int (i * j)) := v_op (g := fun i j => .int (i * j)) ha hb hc
theorem v_div {i j : Int} (ha : Val ta σ H (.int i)) (hb : Val tb σ H (.int j)) (hc : CDiv i j) : Val (tOp (rI CDiv fun i j => .int (i / j)) ta tb) σ H (.int (i / j)) := v_op (g := fun i j => .int (i / j)) ha hb hc
theorem v_divW {i j : Int} (ha : Val ta σ H (.int i)) (hb : Val tb σ H (.int j)) (hc : CDivW i j) : Val (tOp (rI CDivW fun i j => .int (i / j)) ta tb) σ H (.int (i / j)) := v_op (g := fun i j => .int (i / j)) ha hb hc
theorem v_mod {i j : Int} (ha : Val ta σ H (.int i)) (hb : Val tb σ H (.int j)) (hc : 0 < j) : Val (tOp (rI (fun _ j => 0 < j) fun i j => .int (i % j)) ta tb) σ H (.int (i % j)) := v_op (C := fun _ j => 0 < j) (g := fun i j => .int (i % j)) ha hb hc
theorem v_eqi {i j : Int} (ha : Val ta σ H (.int i)) (hb : Val tb σ H (.int j)) : Val (tOp rEq ta tb) σ H (.bl (decide (i = j))) := v_is (v_eq ha hb rfl) (by congr 1; rw [Bool.eq_iff_iff]; simp)
theorem v_nei {i j : Int} (ha : Val ta σ H (.int i)) (hb : Val tb σ H (.int j)) : Val (tOp rNe ta tb) σ H (.bl (!decide (i = j))) := v_is (v_ne ha hb rfl) (by congr 2; rw [Bool.eq_iff_iff]; simp)
theorem v_len {K : PySem.W.Frag} {a : Addr} {xs : List V} (ha : Val ta σ H (.ref a)) (h : SqL K H a xs) : Val (tCB (fun xs H Q => ∃ p ys, xs = [.ref p] ∧ (SqL K H p ys ∨ SqT K H p ys) ∧ Q (.int ys.length) H) (tCons ta tNil)) σ H (.int (xs.length : Int)) := fun _ q => ha _ ⟨a, xs, rfl, .inl h, q⟩
theorem mulR {i k : Int} (h : -(2 ^ 64) < k ∧ k < 2 ^ 64) : CMul i k := .inr h
theorem mulL {i k : Int} (h : -(2 ^ 64) < i ∧ i < 2 ^ 64) : CMul i k := .inl h
/-! statements, something behind -/
theorem z_set (h : Val te σ H v) (k : tz D (σ.set i (some v)) H) : tSeq (tAsg te (gName i)) tz D σ H := h _ k
theorem z_ret (h : Val te σ H v) (k : D.rt v H) : tRet te D σ H := h _ k
theorem z_if (h : Ans t σ H b) (h1 : b = true → t1 { D with nx := tz D } σ H) (h2 : b = false → t2 { D with nx := tz D } σ H) : tSeq (tIfS t t1 t2) tz D σ H := h _ (by
  cases b with
  | true => exact h1 rfl
  | false => exact h2 rfl)
theorem s_ifs (h : Ans t σ H b) (h1 : b = true → t1 D σ H) (h2 : b = false → t2 D σ H) : tIfS t t1 t2 D σ H := h _ (by
  cases b with
  | true => exact h1 rfl
  | false => exact h2 rfl)
theorem z_drop (h : Val te σ H v) (k : tz D σ H) : tSeq (tDrop te) tz D σ H := h _ k
/-- a pair that is laid -/
theorem t_pair {Q : VK} (ha : Val ta σ H x) (hb : ∀ H1, Ex H H1 → Val tb σ H1 y) (k : ∀ p, H p = none → Q (.ref p) (upd H p (.tup [x, y]))) : tTup (tCons ta (tCons tb tNil)) σ H Q :=
  ha _ ((hb H (Evl.Ex.refl H)) _ ⟨by show 2 ≤ sizeLine; decide, k⟩)
end
/-! ### how large numbers may be -/
def Bd (n : Nat) (i : Int) : Prop := i.natAbs < 2 ^ n
theorem Bd.mul {a b : Nat} {i j : Int} (ha : Bd a i) (hb : Bd b j) : Bd (a + b) (i * j) := wide_lt ha hb
theorem Bd.add {n : Nat} {i j : Int} (ha : Bd n i) (hb : Bd n j) : Bd (n + 1) (i + j) := by
  unfold Bd at *
  rw [Nat.pow_succ]
  omega
theorem Bd.mono {a b : Nat} {i : Int} (ha : Bd a i) (h : a ≤ b) : Bd b i := Nat.lt_of_lt_of_le ha (Nat.pow_le_pow_right (by decide) h)
theorem Bd.le {a : Nat} {i j : Int} (hj : Bd a j) (h : i.natAbs ≤ j.natAbs) : Bd a i := Nat.lt_of_le_of_lt h hj
theorem Bd.mulw {a b : Nat} {i j : Int} (ha : Bd a i) (hb : Bd b j) (h0 : 0 < a) (h1 : 0 < b) (h : a + b ≤ 1000000) : CMulW i j := wide_mul ha hb h0 h1 h
theorem Bd.divw {b : Nat} {i j : Int} (h : 0 < j) (hb : Bd b j) (h0 : 0 < b) (h9 : b ≤ 9000) : CDivW i j := wide_div h hb h0 h9
end Sp
namespace Sp
open PySem L2 Mth
open Evl (Ex)
/-! ### sorted, of pairs -/
def kOf (H : Hp) : V → P2
  | .ref t => match H t with
    | some (.tup [.int i, .int j]) => (i, j)
    | _ => (0, 0)
  | _ => (0, 0)
theorem kOf_tp {H : Hp} {v : V} {p : P2} (h : Tp H v p) : kOf H v = p := by
  obtain ⟨t, rfl, e⟩ := h
  unfold kOf
  simp only [e]
theorem kOf_map {H : Hp} : ∀ {vs : List V} {ps : List P2}, Tps H vs ps → vs.map (kOf H) = ps
  | _, _, .nil => rfl
  | _, _, .cons r t => by rw [List.map_cons, kOf_tp r, kOf_map t]
theorem tps_kOf {H : Hp} : ∀ {vs : List V}, (∀ v ∈ vs, ∃ p, Tp H v p) → Tps H vs (vs.map (kOf H))
  | [], _ => .nil
  | v :: vs, h => by
    obtain ⟨p, hp⟩ := h v List.mem_cons_self
    rw [List.map_cons]
    exact .cons (by rw [kOf_tp hp]; exact hp) (tps_kOf fun u hu => h u (List.mem_cons_of_mem _ hu))
theorem tps_mem {H : Hp} : ∀ {vs : List V} {ps : List P2}, Tps H vs ps → ∀ v ∈ vs, ∃ p, Tp H v p
  | _, _, .nil, _, h => nomatch h
  | _, _, .cons r t, v, h => by
    rcases List.mem_cons.mp h with rfl | h
    · exact ⟨_, r⟩
    · exact tps_mem t v h
theorem sorted_tps {H : Hp} {vs ys : List V} {ps : List P2} (h : Tps H vs ps) (s1 : SrtO.Srtd (ltP (kOf H)) ys) (s2 : SrtO.Stb (ltP (kOf H)) ys vs) : Tps H ys (sortP ps) := by
  have h1 : Tps H ys (ys.map (kOf H)) := tps_kOf fun v hv => tps_mem h v (s2.perm.mem_iff.mp hv)
  have e : ys.map (kOf H) = sortP ps := by
    refine sortP_eq ?_ ?_
    · have := s2.perm.map (kOf H)
      rw [kOf_map h] at this
      exact this
    · refine List.pairwise_map.mpr (List.Pairwise.imp ?_ s1)
      intro a b hab
      have := SrtO.lexB_no.mp hab
      unfold leP
      simp only [Bool.or_eq_true, Bool.and_eq_true, decide_eq_true_eq]
      omega
  rw [← e]
  exact h1
theorem do_sorted {K : PySem.W.Frag} {H : Hp} {a : Addr} {ps : List P2} {Q : VK} (h : PL H a ps) (k : ∀ p ys, H p = none → Tps H ys (sortP ps) → Q (.ref p) (upd H p (.lst ys))) : rSortedPO K [.ref a] H Q := by
  obtain ⟨vs, e1, e2⟩ := h
  refine ⟨a, vs, kOf H, rfl, SqL.of e1, fun x hx => ?_, fun ys p s1 s2 hp => k p ys hp (sorted_tps e2 s1 s2)⟩
  obtain ⟨p, hp⟩ := tps_mem e2 x hx
  rw [kOf_tp hp]
  exact hp
/-- a, b = pair -/
theorem g_pair {K : PySem.W.Frag} {H : Hp} {v : V} {p : P2} {σ : St} {i j : Nat} {Q : St → Hp → Prop} (h : Tp H v p) (k : Q ((σ.set i (some (.int p.1))).set j (some (.int p.2))) H) : gTup K 2 (gCons (gName i) (gCons (gName j) gNil)) v σ H Q := by
  obtain ⟨t, rfl, e⟩ := h
  exact ⟨t, _, rfl, SqT.of e, rfl, _, _, rfl, _, _, rfl, rfl, k⟩
/-! ### sizes -/
structure Sz (ps : List P2) : Prop where
  ok : Ok ps
  cnt : Bd 400 (sm (·.2) ps)
  tot : Bd 800 (sm (fun h => ((h.2 * h.1).natAbs : Int)) ps)
  len : ps.length ≤ 10000
  pl : ∀ h ∈ ps, Bd 800 h.1
theorem sm_nonneg {F : P2 → Int} : ∀ {l : List P2}, (∀ b ∈ l, 0 ≤ F b) → 0 ≤ sm F l
  | [], _ => Int.le_refl _
  | x :: r, h => by
    rw [sm_cons]
    have := h x List.mem_cons_self
    have := sm_nonneg (l := r) fun b hb => h b (List.mem_cons_of_mem _ hb)
    omega
theorem sm_mem {F : P2 → Int} : ∀ {l : List P2} {b : P2}, (∀ b ∈ l, 0 ≤ F b) → b ∈ l → F b ≤ sm F l
  | x :: r, b, h, hb => by
    rw [sm_cons]
    have h1 := h x List.mem_cons_self
    have h2 := sm_nonneg (l := r) fun b hb => h b (List.mem_cons_of_mem _ hb)
    rcases List.mem_cons.mp hb with rfl | hb
    · omega
    · have := sm_mem (l := r) (fun b hb => h b (List.mem_cons_of_mem _ hb)) hb
      omega
/-- blocks no greater than this -/
structure Sm (N M : Int) (st : List P2) : Prop where
  pos : ∀ b ∈ st, 0 < b.1
  cnt : sm (·.1) st ≤ N
  tot : sm (fun b => (b.2.natAbs : Int)) st ≤ M
theorem Sm.mem {N M : Int} {st : List P2} (h : Sm N M st) {b : P2} (hb : b ∈ st) : 0 < b.1 ∧ b.1 ≤ N ∧ (b.2.natAbs : Int) ≤ M := by
  have h1 := h.pos b hb
  have h2 := sm_mem (F := (·.1)) (fun c hc => Int.le_of_lt (h.pos c hc)) hb
  have h3 := sm_mem (F := fun b => (b.2.natAbs : Int)) (l := st) (fun c hc => Int.natCast_nonneg _) hb
  exact ⟨h1, Int.le_trans h2 h.cnt, Int.le_trans h3 h.tot⟩
theorem Sm.bAdd {N M : Int} {st : List P2} {a b : P2} (h : Sm N M (b :: a :: st)) : Sm N M (bAdd a b :: st) := by
  obtain ⟨h1, h2, h3⟩ := h
  rw [sm_cons, sm_cons] at h2 h3
  refine ⟨fun c hc => ?_, ?_, ?_⟩
  · rcases List.mem_cons.mp hc with rfl | hc
    · have := h1 a (by simp)
      have := h1 b (by simp)
      show 0 < a.1 + b.1
      omega
    · exact h1 c (by simp [hc])
  · rw [sm_cons]
    show a.1 + b.1 + _ ≤ N
    omega
  · rw [sm_cons]
    show ((a.2 + b.2).natAbs : Int) + _ ≤ M
    have := Int.natAbs_add_le a.2 b.2
    omega
theorem Sm.push {N M : Int} : ∀ {st : List P2} {b : P2}, Sm N M (b :: st) → Sm N M (push st b)
  | [], b, h => h
  | a :: r, b, h => by
    unfold Mth.push
    split
    · exact Sm.push h.bAdd
    · exact h
end Sp
namespace Sp
open PySem L2 Mth
open Evl (Ex)
/-- a method; a class that makes -/
structure Md (P : Program) (w : World) (K : PySem.W.Frag) (mg : Str → Option Value) (base : Heap) (C : Addr) (nm : Str) (k : Nat) (ps : List Str) (sp : Sp) (f : Addr) (fd : FuncData) : Prop where
  F : FnOk P w K mg base CX0 k f fd ps sp
  m : Meth K C nm f
  b : Binds K fd ps []
  cl : Cls K C
structure Mr (P : Program) (w : World) (K : PySem.W.Frag) (mg : Str → Option Value) (base : Heap) (nm : Str) (C : Addr) (k : Nat) (ps : List Str) (sp : Sp) (f : Addr) (fd : FuncData) : Prop where
  F : FnOk P w K mg base CX0 k f fd ps sp
  m : Mk K C f
  b : Binds K fd ps []
  g : mg nm = some (.ref C)
/-- names of the built-in things that the text does not bind -/
structure Ms (mg : Str → Option Value) : Prop where
  isinstance_ : mg "isinstance" = none
  int_ : mg "int" = none
  bool_ : mg "bool" = none
  tuple_ : mg "tuple" = none
  list_ : mg "list" = none
  len_ : mg "len" = none
  sorted_ : mg "sorted" = none
  range_ : mg "range" = none
  sum_ : mg "sum" = none
  min_ : mg "min" = none
  max_ : mg "max" = none
  any_ : mg "any" = none
  all_ : mg "all" = none
  abs_ : mg "abs" = none
  str_ : mg "str" = none
theorem pr_last {α β : Type} {F : α → β → Prop} {xs : List α} {ys : List β} {y : β} (h : Paired F xs (ys ++ [y])) : ∃ xs' x, xs = xs' ++ [x] ∧ Paired F xs' ys ∧ F x y := by
  have h2 := pr_rev h
  rw [List.reverse_append, List.reverse_singleton, List.singleton_append] at h2
  generalize e : xs.reverse = zs at h2
  cases h2 with
  | cons r t =>
    rename_i x zs'
    refine ⟨zs'.reverse, x, ?_, ?_, r⟩
    · have : xs = (xs.reverse).reverse := (List.reverse_reverse xs).symm
      rw [this, e, List.reverse_cons]
    · have := pr_rev t
      rw [List.reverse_reverse] at this
      exact this
theorem pr_map {α β γ : Type} {F : α → β → Prop} {G : α → γ → Prop} {g : β → γ} : ∀ {xs : List α} {ys : List β}, Paired F xs ys → (∀ a b, F a b → G a (g b)) → Paired G xs (ys.map g)
  | _, _, .nil, _ => .nil
  | _, _, .cons r t, h => .cons (h _ _ r) (pr_map t h)
theorem pr_imp {α β : Type} {F G : α → β → Prop} {xs : List α} {ys : List β} (h : Paired F xs ys) (k : ∀ a b, F a b → G a b) : Paired G xs ys := Paired.mapP h k
theorem last_at {α : Type} (xs : List α) (x : α) : (xs ++ [x])[(xs ++ [x]).length - 1]? = some x := by simp
theorem take_snoc {α : Type} {l : List α} {i : Nat} {x : α} (h : l[i]? = some x) : l.take (i + 1) = l.take i ++ [x] := by rw [List.take_add_one, h]; rfl
theorem sm_take {F : P2 → Int} {l : List P2} {i : Nat} {x : P2} (h : l[i]? = some x) : sm F (l.take (i + 1)) = sm F (l.take i) + F x := by
  rw [take_snoc h, sm_append, sm_cons, sm_nil, Int.add_zero]
theorem sm_take_le {F : P2 → Int} {l : List P2} (i : Nat) (h : ∀ b ∈ l, 0 ≤ F b) : sm F (l.take i) ≤ sm F l := by
  have e : sm F l = sm F (l.take i) + sm F (l.drop i) := by rw [← sm_append, List.take_append_drop]
  have := sm_nonneg (F := F) (l := l.drop i) fun b hb => h b (List.mem_of_mem_drop hb)
  omega
theorem fold_take {α β : Type} {f : β → α → β} {b : β} {l : List α} {i : Nat} {x : α} (h : l[i]? = some x) : (l.take (i + 1)).foldl f b = f ((l.take i).foldl f b) x := by
  rw [take_snoc h, List.foldl_append]
  rfl
end Sp

set_option Elab.async false
set_option linter.all false
set_option maxRecDepth 100000
set_option maxHeartbeats 4000000
namespace Sp
open PySem L2 Mth Evl
/-! ### expressions that hand back pairs, lists of pairs (new ones) -/
def NL (te : TE) (σ : L2.St) (H : Hp) (qs : List P2) : Prop := ∀ H1, Ex H H1 → ∀ Q : VK, (∀ p H2, H1 p = none → Ex H1 H2 → PL H2 p qs → Q (.ref p) H2) → te σ H1 Q
def NP (te : TE) (σ : L2.St) (H : Hp) (q : P2) : Prop := ∀ H1, Ex H H1 → ∀ Q : VK, (∀ v H2, Ex H1 H2 → Tp H2 v q → Q v H2) → te σ H1 Q
def NA (ta : TA) (σ : L2.St) (H : Hp) (qs : List P2) : Prop := ∀ H1, Ex H H1 → ∀ Q : List V → Hp → Prop, (∀ vs H2, Ex H1 H2 → Tps H2 vs qs → Q vs H2) → ta σ H1 Q
/-- the slice of any list -/
def cutQ {α : Type} (xs : List α) (lo hi : Option Int) : List α := (xs.drop (HT.sIx xs.length 0 lo)).take (HT.sIx xs.length xs.length hi - HT.sIx xs.length 0 lo)
theorem cut_tps {H : Hp} {vs : List V} {ps : List P2} (h : Tps H vs ps) (lo hi : Option Int) : Tps H (cutV vs lo hi) (cutQ ps lo hi) := by
  have e := pr_len h
  unfold cutV cutQ
  rw [e]
  exact pr_take _ (pr_drop _ h)
theorem cutQ_to {α : Type} (xs : List α) (k : Nat) (h : k ≤ xs.length) : cutQ xs none (some (k : Int)) = xs.take k := by
  unfold cutQ
  rw [HT.sIx_none, HT.sIx_nat, List.drop_zero, Nat.sub_zero, Nat.min_eq_left h]
theorem cutQ_from {α : Type} (xs : List α) (k : Nat) : cutQ xs (some (k : Int)) none = xs.drop k := by
  unfold cutQ
  rw [HT.sIx_none, HT.sIx_nat]
  by_cases h : k ≤ xs.length
  · rw [Nat.min_eq_left h]
    exact List.take_of_length_le (by rw [List.length_drop]; omega)
  · rw [Nat.min_eq_right (by omega), Nat.sub_self, List.take_zero, List.drop_eq_nil_of_le (by omega)]
theorem cutQ_sub {α : Type} (xs : List α) (lo hi : Option Int) : ∀ x ∈ cutQ xs lo hi, x ∈ xs := fun x h => List.mem_of_mem_drop (List.mem_of_mem_take h)
theorem cutQ_len {α : Type} (xs : List α) (lo hi : Option Int) : (cutQ xs lo hi).length ≤ xs.length := by
  unfold cutQ
  rw [List.length_take, List.length_drop]
  omega
section
variable {K : PySem.W.Frag} {σ : L2.St} {H H' : Hp} {ta tb te : TE} {x y v : V} {p q : P2} {ps qs : List P2} {a : Addr} {tl th : TO} {lo hi : Option Int} {D : Ends} {tz : TS}
theorem NL.mono (e : Ex H H') (h : NL te σ H qs) : NL te σ H' qs := fun H1 e1 Q k => h H1 (e.trans e1) Q k
theorem NP.mono (e : Ex H H') (h : NP te σ H q) : NP te σ H' q := fun H1 e1 Q k => h H1 (e.trans e1) Q k
theorem np_var {i : Nat} (h : σ[i]? = some (some v)) (t : Tp H v q) : NP (tVar i) σ H q := fun H1 e Q k => ⟨v, h, k v H1 (Ex.refl _) (t.mono e)⟩
theorem np_pair (ha : Ev ta σ H (.int p.1)) (hb : Ev tb σ H (.int p.2)) : NP (tTup (tCons ta (tCons tb tNil))) σ H p := fun H1 e Q k =>
  ha H1 e _ fun H2 e2 => hb H2 (e.trans e2) _ fun H3 e3 => ⟨by show 2 ≤ sizeLine; decide, fun t nt => k _ _ ((e2.trans e3).trans (Ex.new nt)) ⟨t, rfl, upd_same⟩⟩
theorem np_ixL {i : Int} (ha : Ev ta σ H (.ref a)) (hb : Ev tb σ H (.int i)) (h : PL H a ps) (hi : atI ps i = some q) : NP (tOp (rIxL K) ta tb) σ H q := fun H1 e Q k =>
  ha H1 e _ fun H2 e2 => hb H2 (e.trans e2) _ fun H3 e3 => by
    obtain ⟨vs, h1, h2⟩ := h.mono ((e.trans e2).trans e3)
    obtain ⟨j, hj, hq⟩ : ∃ j, ixN ps.length i = some j ∧ ps[j]? = some q := by
      unfold atI at hi
      cases hx : ixN ps.length i with
      | none => rw [hx] at hi; cases hi
      | some j => rw [hx] at hi; exact ⟨j, rfl, hi⟩
    obtain ⟨v, hv, tv⟩ := pr_get2 h2 hq
    exact ⟨a, vs, i, v, rfl, rfl, SqL.of h1, by unfold atI; rw [pr_len h2, hj]; exact hv, k v H3 (e2.trans e3) tv⟩
/-- an item of a list that is made on the way -/
theorem np_ixN {i : Int} (ha : NL ta σ H ps) (hb : Ev tb σ H (.int i)) (hi : atI ps i = some q) : NP (tOp (rIxL K) ta tb) σ H q := fun H1 e Q k =>
  ha H1 e _ fun l H2 nl e2 h => hb H2 (e.trans e2) _ fun H3 e3 => by
    obtain ⟨vs, h1, h2⟩ := h.mono e3
    obtain ⟨j, hj, hq⟩ : ∃ j, ixN ps.length i = some j ∧ ps[j]? = some q := by
      unfold atI at hi
      cases hx : ixN ps.length i with
      | none => rw [hx] at hi; cases hi
      | some j => rw [hx] at hi; exact ⟨j, rfl, hi⟩
    obtain ⟨v, hv, tv⟩ := pr_get2 h2 hq
    exact ⟨l, vs, i, v, rfl, rfl, SqL.of h1, by unfold atI; rw [pr_len h2, hj]; exact hv, k v H3 (e2.trans e3) tv⟩
/-- a pair's number -/
theorem ev_ixP {i : Int} (ha : NP ta σ H p) (hb : Ev tb σ H (.int i)) (hi : atI ([.int p.1, .int p.2] : List V) i = some v) : Ev (tOp (rIxT K) ta tb) σ H v := fun H1 e Q k =>
  ha H1 e _ fun u H2 e2 t => hb H2 (e.trans e2) _ fun H3 e3 => by
    obtain ⟨a, rfl, h⟩ := t.mono e3
    exact ⟨a, _, i, v, rfl, rfl, SqT.of h, hi, k H3 (e2.trans e3)⟩
theorem na_nil : NA tNil σ H [] := fun H1 _ Q k => k _ _ (Ex.refl _) .nil
theorem na_cons {tr : TA} (h : NP te σ H q) (hr : NA tr σ H qs) : NA (tCons te tr) σ H (q :: qs) := fun H1 e Q k =>
  h H1 e _ fun v H2 e2 t => hr H2 (e.trans e2) _ fun vs H3 e3 ts => k _ _ (e2.trans e3) (.cons (t.mono e3) ts)
theorem nl_lst {t : TA} (h : NA t σ H qs) (hz : qs.length ≤ 100000) : NL (tLst t) σ H qs := fun H1 e Q k =>
  h H1 e _ fun vs H2 e2 ts => ⟨by rw [pr_len ts]; exact sz_of hz, fun l nl => k l _ (Evl.fresh_back e2 nl) (e2.trans (Ex.new nl)) ⟨vs, upd_same, ts.mono (Ex.new nl)⟩⟩
theorem nl_sl (ha : Ev ta σ H (.ref a)) (h1 : EvO tl σ H lo) (h2 : EvO th σ H hi) (h : PL H a ps) : NL (tSl (rSlL K) ta tl th) σ H (cutQ ps lo hi) := fun H1 e Q k =>
  ha H1 e _ fun H2 e2 => h1 H2 (e.trans e2) _ fun H3 e3 => h2 H3 ((e.trans e2).trans e3) _ fun H4 e4 => by
    obtain ⟨vs, g1, g2⟩ := h.mono (((e.trans e2).trans e3).trans e4)
    exact ⟨a, vs, rfl, SqL.of g1, fun l nl => k l _ (Evl.fresh_back ((e2.trans e3).trans e4) nl) (((e2.trans e3).trans e4).trans (Ex.new nl)) ⟨_, upd_same, (cut_tps g2 lo hi).mono (Ex.new nl)⟩⟩
theorem nl_cat (ha : NL ta σ H ps) (hb : NL tb σ H qs) (hz : ps.length + qs.length ≤ 100000) : NL (tOp rCat ta tb) σ H (ps ++ qs) := fun H1 e Q k =>
  ha H1 e _ fun l H2 nl e2 h => hb H2 (e.trans e2) _ fun b H3 nb e3 g => by
    obtain ⟨vs, h1, h2⟩ := h.mono e3
    obtain ⟨ws, g1, g2⟩ := g
    exact ⟨l, b, vs, ws, rfl, rfl, h1, g1, by rw [pr_len h2, pr_len g2]; exact sz_of hz, fun r nr => k r _ (Evl.fresh_back (e2.trans e3) nr) ((e2.trans e3).trans (Ex.new nr)) ⟨_, upd_same, pr_app (h2.mono (Ex.new nr)) (g2.mono (Ex.new nr))⟩⟩
/-- a list that stands, and a new one -/
theorem nl_catV (ha : Ev ta σ H (.ref a)) (h : PL H a ps) (hb : NL tb σ H qs) (hz : ps.length + qs.length ≤ 100000) : NL (tOp rCat ta tb) σ H (ps ++ qs) := fun H1 e Q k =>
  ha H1 e _ fun H2 e2 => hb H2 (e.trans e2) _ fun b H3 nb e3 g => by
    obtain ⟨vs, h1, h2⟩ := h.mono ((e.trans e2).trans e3)
    obtain ⟨ws, g1, g2⟩ := g
    exact ⟨a, b, vs, ws, rfl, rfl, h1, g1, by rw [pr_len h2, pr_len g2]; exact sz_of hz, fun r nr => k r _ (Evl.fresh_back (e2.trans e3) nr) ((e2.trans e3).trans (Ex.new nr)) ⟨_, upd_same, pr_app (h2.mono (Ex.new nr)) (g2.mono (Ex.new nr))⟩⟩
theorem nl_rev (ha : Ev ta σ H (.ref a)) (h : PL H a ps) : NL (tRevL K ta) σ H ps.reverse := fun H1 e Q k =>
  ha H1 e _ fun H2 e2 => by
    obtain ⟨vs, h1, h2⟩ := h.mono (e.trans e2)
    exact ⟨a, vs, rfl, SqL.of h1, fun l nl => k l _ (Evl.fresh_back e2 nl) (e2.trans (Ex.new nl)) ⟨_, upd_same, pr_rev (h2.mono (Ex.new nl))⟩⟩
theorem nl_list (ha : Ev ta σ H (.ref a)) (h : PL H a ps) : NL (tCB (fun xs H Q => ∃ p ys, xs = [.ref p] ∧ (SqL K H p ys ∨ SqT K H p ys) ∧ ∀ l, H l = none → Q (.ref l) (upd H l (.lst ys))) (tCons ta tNil)) σ H ps := fun H1 e Q k =>
  ha H1 e _ fun H2 e2 => by
    obtain ⟨vs, h1, h2⟩ := h.mono (e.trans e2)
    exact ⟨a, vs, rfl, .inl (SqL.of h1), fun l nl => k l _ (Evl.fresh_back e2 nl) (e2.trans (Ex.new nl)) ⟨_, upd_same, h2.mono (Ex.new nl)⟩⟩
theorem nl_if {b : Bool} {t : TT} (h : EvT t σ H b) (h1 : b = true → NL ta σ H qs) (h2 : b = false → NL tb σ H qs) : NL (tIf t ta tb) σ H qs := fun H1 e Q k => h H1 e _ fun H2 e2 => by
  cases b with
  | true => exact h1 rfl H2 (e.trans e2) Q fun p H3 n3 e3 g => k p H3 (Evl.fresh_back e2 n3) (e2.trans e3) g
  | false => exact h2 rfl H2 (e.trans e2) Q fun p H3 n3 e3 g => k p H3 (Evl.fresh_back e2 n3) (e2.trans e3) g
theorem nl_is (h : NL te σ H ps) (e : ps = qs) : NL te σ H qs := e ▸ h
theorem ev_is2 {w : V} (h : Ev te σ H v) (e : v = w) : Ev te σ H w := e ▸ h
/-- a == b, a != b of lists of pairs -/
theorem ev_eqPL {b : Addr} (ha : Ev ta σ H (.ref a)) (hb : Ev tb σ H (.ref b)) (h1 : PL H a ps) (h2 : PL H b qs) : Ev (tOp (rEqD K) ta tb) σ H (.bl (decide (ps = qs))) := fun H1 e Q k =>
  ha H1 e _ fun H2 e2 => hb H2 (e.trans e2) _ fun H3 e3 => eq_PL (h1.mono ((e.trans e2).trans e3)) (h2.mono ((e.trans e2).trans e3)) (k H3 (e2.trans e3))
theorem ev_nePL {b : Addr} (ha : Ev ta σ H (.ref a)) (hb : Ev tb σ H (.ref b)) (h1 : PL H a ps) (h2 : PL H b qs) : Ev (tOp (rNeD K) ta tb) σ H (.bl (!decide (ps = qs))) := fun H1 e Q k =>
  ha H1 e _ fun H2 e2 => hb H2 (e.trans e2) _ fun H3 e3 => ne_PL (h1.mono ((e.trans e2).trans e3)) (h2.mono ((e.trans e2).trans e3)) (k H3 (e2.trans e3))
/-- numbers -/
theorem e_add {i j : Int} (ha : Ev ta σ H (.int i)) (hb : Ev tb σ H (.int j)) : Ev (tOp (rI0 fun i j => .int (i + j)) ta tb) σ H (.int (i + j)) := ev_op ha hb (rv_I0 (g := fun i j => .int (i + j)))
theorem e_sub {i j : Int} (ha : Ev ta σ H (.int i)) (hb : Ev tb σ H (.int j)) : Ev (tOp (rI0 fun i j => .int (i - j)) ta tb) σ H (.int (i - j)) := ev_op ha hb (rv_I0 (g := fun i j => .int (i - j)))
theorem e_C {C : Int → Int → Prop} {g : Int → Int → V} {i j : Int} (ha : Ev ta σ H (.int i)) (hb : Ev tb σ H (.int j)) (hc : C i j) : Ev (tOp (rI C g) ta tb) σ H (g i j) := ev_op ha hb (rv_I hc)
theorem e_mul {i j : Int} (ha : Ev ta σ H (.int i)) (hb : Ev tb σ H (.int j)) (hc : CMul i j) : Ev (tOp (rI CMul fun i j => .int (i * j)) ta tb) σ H (.int (i * j)) := e_C (g := fun i j => .int (i * j)) ha hb hc
theorem e_mulW {i j : Int} (ha : Ev ta σ H (.int i)) (hb : Ev tb σ H (.int j)) (hc : CMulW i j) : Ev (tOp (rI CMulW fun i j => .int (i * j)) ta tb) σ H (.int (i * j)) := e_C (g := fun i j => .int (i * j)) ha hb hc
theorem e_div {i j : Int} (ha : Ev ta σ H (.int i)) (hb : Ev tb σ H (.int j)) (hc : CDiv i j) : Ev (tOp (rI CDiv fun i j => .int (i / j)) ta tb) σ H (.int (i / j)) := e_C (g := fun i j => .int (i / j)) ha hb hc
theorem e_divW {i j : Int} (ha : Ev ta σ H (.int i)) (hb : Ev tb σ H (.int j)) (hc : CDivW i j) : Ev (tOp (rI CDivW fun i j => .int (i / j)) ta tb) σ H (.int (i / j)) := e_C (g := fun i j => .int (i / j)) ha hb hc
theorem e_mod {i j : Int} (ha : Ev ta σ H (.int i)) (hb : Ev tb σ H (.int j)) (hc : 0 < j) : Ev (tOp (rI (fun _ j => 0 < j) fun i j => .int (i % j)) ta tb) σ H (.int (i % j)) := e_C (C := fun _ j => 0 < j) (g := fun i j => .int (i % j)) ha hb hc
theorem e_pow {i j : Int} (ha : Ev ta σ H (.int i)) (hb : Ev tb σ H (.int j)) (hc : CPow i j) : Ev (tOp (rI CPow fun i j => .int (i ^ j.toNat)) ta tb) σ H (.int (i ^ j.toNat)) := e_C (g := fun i j => .int (i ^ j.toNat)) ha hb hc
theorem e_neg {i : Int} (ha : Ev ta σ H (.int i)) : Ev (tUn (rU fun i => .int (-i)) ta) σ H (.int (-i)) := ev_un ha ru_neg
theorem e_lt {i j : Int} (ha : Ev ta σ H (.int i)) (hb : Ev tb σ H (.int j)) : EvT (tTest (tOp (rI0 fun i j => .bl (decide (i < j))) ta tb)) σ H (decide (i < j)) := et_test (ev_op ha hb (rv_I0 (g := fun i j => .bl (decide (i < j)))))
theorem e_gt {i j : Int} (ha : Ev ta σ H (.int i)) (hb : Ev tb σ H (.int j)) : EvT (tTest (tOp (rI0 fun i j => .bl (decide (j < i))) ta tb)) σ H (decide (j < i)) := et_test (ev_op ha hb (rv_I0 (g := fun i j => .bl (decide (j < i)))))
theorem e_ge {i j : Int} (ha : Ev ta σ H (.int i)) (hb : Ev tb σ H (.int j)) : EvT (tTest (tOp (rI0 fun i j => .bl (decide (j ≤ i))) ta tb)) σ H (decide (j ≤ i)) := et_test (ev_op ha hb (rv_I0 (g := fun i j => .bl (decide (j ≤ i)))))
theorem e_eqi {i j : Int} (ha : Ev ta σ H (.int i)) (hb : Ev tb σ H (.int j)) : EvT (tTest (tOp rEq ta tb)) σ H (decide (i = j)) := et_is (et_test (ev_op ha hb (rv_eq rfl))) (by rw [Bool.eq_iff_iff]; simp)
theorem e_nei {i j : Int} (ha : Ev ta σ H (.int i)) (hb : Ev tb σ H (.int j)) : EvT (tTest (tOp rNe ta tb)) σ H (!decide (i = j)) := et_is (et_test (ev_op ha hb (rv_ne rfl))) (by congr 1; rw [Bool.eq_iff_iff]; simp)
theorem e_lenL {vs : List V} (ha : Ev ta σ H (.ref a)) (h : SqL K H a vs) : Ev (tCB (fun xs H Q => ∃ p ys, xs = [.ref p] ∧ (SqL K H p ys ∨ SqT K H p ys) ∧ Q (.int ys.length) H) (tCons ta tNil)) σ H (.int (vs.length : Int)) := fun H1 e Q k =>
  ha H1 e _ fun H2 e2 => ⟨a, vs, rfl, .inl (ex_l (e.trans e2) h), k H2 e2⟩
theorem e_lenP (ha : Ev ta σ H (.ref a)) (h : PL H a ps) : Ev (tCB (fun xs H Q => ∃ p ys, xs = [.ref p] ∧ (SqL K H p ys ∨ SqT K H p ys) ∧ Q (.int ys.length) H) (tCons ta tNil)) σ H (.int (ps.length : Int)) := by
  obtain ⟨vs, h1, h2⟩ := h
  have := e_lenL (K := K) ha (SqL.of h1)
  rw [pr_len h2] at this
  exact this
/-! statements -/
theorem q_asgN {i : Nat} (h : NL te σ H qs) (k : ∀ p H1, H p = none → Ex H H1 → PL H1 p qs → tz D (σ.set i (some (.ref p))) H1) : tSeq (tAsg te (gName i)) tz D σ H := h H (Ex.refl H) _ k
theorem q_asgP {i : Nat} (h : NP te σ H q) (k : ∀ v H1, Ex H H1 → Tp H1 v q → tz D (σ.set i (some v)) H1) : tSeq (tAsg te (gName i)) tz D σ H := h H (Ex.refl H) _ k
theorem s_retN (h : NL te σ H qs) (k : ∀ p H1, H p = none → Ex H H1 → PL H1 p qs → D.rt (.ref p) H1) : tRet te D σ H := h H (Ex.refl H) _ k
theorem q_asgPair {i j : Nat} (h : NP te σ H q) (k : ∀ H1, Ex H H1 → tz D ((σ.set i (some (.int q.1))).set j (some (.int q.2))) H1) : tSeq (tAsg te (gTup K 2 (gCons (gName i) (gCons (gName j) gNil)))) tz D σ H :=
  h H (Ex.refl H) _ fun v H1 e t => g_pair t (k H1 e)
end
end Sp
namespace Sp
open PySem L2 Mth Evl
/-! ### what the law draws -/
def primes : List Int := [1000003, 1000033, 1000037, 1000039, 1000081, 1000099, 1000117, 1000121, 1000133, 1000151, 1000159, 1000171, 1000183, 1000187, 1000193, 1000199]
def cellF (ns : List Int) (k : Int) : Int := ns.getD k.toNat 0
def drawF (c k m : Int) : Int := (c * 48271 + k * 69621) % (primes.getD (k % 16).toNat 1) % m
theorem drawF_lo {c k m : Int} (h : 0 < m) : 0 ≤ drawF c k m := Int.emod_nonneg _ (by omega)
theorem drawF_hi {c k m : Int} (h : 0 < m) : drawF c k m < m := Int.emod_lt_of_pos _ h
theorem prime_at (i : Int) : ∃ p, atI (primes.map V.int) (i % 16) = some (.int p) ∧ 0 < p ∧ p = primes.getD (i % 16).toNat 1 := by
  have h1 := Int.emod_nonneg i (show (16 : Int) ≠ 0 by decide)
  have h2 := Int.emod_lt_of_pos i (show (0 : Int) < 16 by decide)
  obtain ⟨j, hj⟩ : ∃ j : Nat, i % 16 = (j : Int) := ⟨(i % 16).toNat, by omega⟩
  rw [hj]
  have hj16 : j < 16 := by omega
  have hlen : primes.length = 16 := rfl
  have hg : primes[j]? = some (primes.getD j 1) := by
    rw [List.getD_eq_getElem?_getD, List.getElem?_eq_getElem (by omega)]
    rfl
  refine ⟨primes.getD j 1, atI_nat (by rw [List.getElem?_map, hg]; rfl), ?_, by rw [Int.toNat_natCast]⟩
  have all : ∀ p ∈ primes, 0 < p := by decide
  exact all _ (List.mem_of_getElem? hg)
def most4 (i : Int) : Int := ([3, 20, 1000000, 5] : List Int).getD i.toNat 1
def wide4 (i : Int) : Int := ([5, 60, 1000000, 9] : List Int).getD i.toNat 1
theorem four_at (l : List Int) (hl : l.length = 4) {i : Int} (h0 : 0 ≤ i) (h4 : i < 4) : atI (l.map V.int) i = some (.int (l.getD i.toNat 1)) := by
  obtain ⟨j, rfl⟩ : ∃ j : Nat, i = (j : Int) := ⟨i.toNat, by omega⟩
  refine atI_nat ?_
  rw [List.getElem?_map, Int.toNat_natCast, List.getD_eq_getElem?_getD, List.getElem?_eq_getElem (by omega)]
  rfl
def evenH (ns : List Int) (i : Nat) : P2 := (cellF ns (2 * i : Int) / 2 % 10 ^ 40 * (1 - cellF ns (2 * i : Int) % 2 * 2), cellF ns (2 * i + 1 : Int) % 10 ^ 40)
def oddH (ns : List Int) (i : Nat) : P2 :=
  (drawF (cellF ns i) ((i : Int) % 5 + 1) (wide4 (drawF (cellF ns 1) 7 4)) - wide4 (drawF (cellF ns 1) 7 4) / 2, drawF (cellF ns i) ((i : Int) % 7 + 2) (most4 (drawF (cellF ns 0) 6 4)))
def heapsF (ns : List Int) : List P2 := if ns.length % 2 = 0 then (List.range (ns.length / 2)).map (evenH ns) else (List.range ns.length).map (oddH ns)
/-- heaps no greater than this -/
structure HB (L : Nat) (ps : List P2) : Prop where
  len : ps.length ≤ L
  ok : ∀ h ∈ ps, 0 ≤ h.2 ∧ Bd 200 h.2 ∧ Bd 200 h.1
theorem wide4_pos {i : Int} (h0 : 0 ≤ i) (h4 : i < 4) : 0 < wide4 i ∧ wide4 i ≤ 1000000 := by
  have : i = 0 ∨ i = 1 ∨ i = 2 ∨ i = 3 := by omega
  rcases this with rfl | rfl | rfl | rfl <;> decide
theorem most4_pos {i : Int} (h0 : 0 ≤ i) (h4 : i < 4) : 0 < most4 i ∧ most4 i ≤ 1000000 := by
  have : i = 0 ∨ i = 1 ∨ i = 2 ∨ i = 3 := by omega
  rcases this with rfl | rfl | rfl | rfl <;> decide
theorem ten40 : (10 : Int) ^ 40 = 10000000000000000000000000000000000000000 := by decide
theorem two200 : (2 : Nat) ^ 200 = 1606938044258990275541962092341162602522202993782792835301376 := by decide
theorem evenH_ok (ns : List Int) (i : Nat) : 0 ≤ (evenH ns i).2 ∧ (evenH ns i).2 < 10 ^ 40 ∧ (evenH ns i).1.natAbs < 10 ^ 40 := by
  unfold evenH
  generalize cellF ns (2 * i : Int) = x
  generalize cellF ns (2 * i + 1 : Int) = y
  have p0 : (0 : Int) < 10 ^ 40 := by decide
  have a1 := Int.emod_nonneg y (show (10 : Int) ^ 40 ≠ 0 by decide)
  have a2 := Int.emod_lt_of_pos y p0
  have b1 := Int.emod_nonneg (x / 2) (show (10 : Int) ^ 40 ≠ 0 by decide)
  have b2 := Int.emod_lt_of_pos (x / 2) p0
  refine ⟨a1, a2, ?_⟩
  show (x / 2 % 10 ^ 40 * (1 - x % 2 * 2)).natAbs < 10 ^ 40
  have h : 1 - x % 2 * 2 = 1 ∨ 1 - x % 2 * 2 = -1 := by omega
  generalize x / 2 % 10 ^ 40 = z at *
  have e : (10 : Nat) ^ 40 = 10000000000000000000000000000000000000000 := by decide
  rw [ten40] at b2
  rw [e]
  rcases h with h | h <;> rw [h] <;> omega
theorem oddH_ok (ns : List Int) (i : Nat) : 0 ≤ (oddH ns i).2 ∧ (oddH ns i).2 < 1000000 ∧ (oddH ns i).1.natAbs < 1000001 := by
  unfold oddH
  obtain ⟨w1, w2⟩ := wide4_pos (drawF_lo (c := cellF ns 1) (k := 7) (m := 4) (by decide)) (drawF_hi (by decide))
  obtain ⟨m1, m2⟩ := most4_pos (drawF_lo (c := cellF ns 0) (k := 6) (m := 4) (by decide)) (drawF_hi (by decide))
  generalize wide4 (drawF (cellF ns 1) 7 4) = w at *
  generalize most4 (drawF (cellF ns 0) 6 4) = m at *
  have a1 := drawF_lo (c := cellF ns i) (k := (i : Int) % 5 + 1) w1
  have a2 := drawF_hi (c := cellF ns i) (k := (i : Int) % 5 + 1) w1
  have b1 := drawF_lo (c := cellF ns i) (k := (i : Int) % 7 + 2) m1
  have b2 := drawF_hi (c := cellF ns i) (k := (i : Int) % 7 + 2) m1
  refine ⟨b1, by show drawF _ _ m < _; omega, ?_⟩
  show (drawF _ _ w - w / 2).natAbs < _
  omega
/-- each heap of the law's: no more than forty figures -/
theorem heapsF_40 (ns : List Int) : ∀ h ∈ heapsF ns, 0 ≤ h.2 ∧ h.2 < 10 ^ 40 ∧ h.1.natAbs < 10 ^ 40 := by
  intro h hh
  unfold heapsF at hh
  split at hh
  · obtain ⟨i, _, rfl⟩ := List.mem_map.mp hh
    exact evenH_ok ns i
  · obtain ⟨i, _, rfl⟩ := List.mem_map.mp hh
    obtain ⟨h1, h2, h3⟩ := oddH_ok ns i
    have e : (10 : Nat) ^ 40 = 10000000000000000000000000000000000000000 := by decide
    rw [ten40, e]
    refine ⟨h1, by omega, by omega⟩
theorem heapsF_len (ns : List Int) : (heapsF ns).length ≤ ns.length := by
  unfold heapsF
  split
  · rw [List.length_map, List.length_range]; omega
  · rw [List.length_map, List.length_range]; omega
theorem heapsF_hb {ns : List Int} (h : ns.length ≤ 63) : HB 63 (heapsF ns) := by
  refine ⟨Nat.le_trans (heapsF_len ns) h, fun x hx => ?_⟩
  obtain ⟨h1, h2, h3⟩ := heapsF_40 ns x hx
  have e : (10 : Nat) ^ 40 = 10000000000000000000000000000000000000000 := by decide
  rw [e] at h3
  rw [ten40] at h2
  unfold Bd
  rw [two200]
  refine ⟨h1, by omega, by omega⟩
theorem HB.le {L M : Nat} {ps : List P2} (h : HB L ps) (hm : L ≤ M) : HB M ps := ⟨Nat.le_trans h.len hm, h.ok⟩
theorem HB.app {L M : Nat} {ps qs : List P2} (h : HB L ps) (k : HB M qs) : HB (L + M) (ps ++ qs) := by
  refine ⟨by rw [List.length_append]; have := h.len; have := k.len; omega, fun x hx => ?_⟩
  rcases List.mem_append.mp hx with hx | hx
  · exact h.ok x hx
  · exact k.ok x hx
theorem HB.sub {L : Nat} {ps qs : List P2} (h : HB L ps) (hl : qs.length ≤ ps.length) (hm : ∀ x ∈ qs, x ∈ ps) : HB L qs := ⟨Nat.le_trans hl h.len, fun x hx => h.ok x (hm x hx)⟩
theorem HB.cut {L : Nat} {ps : List P2} (h : HB L ps) (lo hi : Option Int) : HB L (cutQ ps lo hi) := h.sub (cutQ_len _ _ _) (cutQ_sub _ _ _)
theorem sm_bound {F : P2 → Int} {B : Nat} : ∀ {l : List P2}, (∀ b ∈ l, 0 ≤ F b ∧ (F b).natAbs ≤ B) → 0 ≤ sm F l ∧ (sm F l).natAbs ≤ l.length * B
  | [], _ => by simp [sm]
  | x :: r, h => by
    obtain ⟨h1, h2⟩ := h x List.mem_cons_self
    obtain ⟨h3, h4⟩ := sm_bound (l := r) fun b hb => h b (List.mem_cons_of_mem _ hb)
    rw [sm_cons, List.length_cons, Nat.add_mul, Nat.one_mul]
    omega
theorem HB.sz {L : Nat} {ps : List P2} (h : HB L ps) (hL : L ≤ 1000) : Sz ps := by
  have e1 : 1000 * 2 ^ 200 < 2 ^ 400 := by
    have : 1000 < 2 ^ 10 := by decide
    have : 1000 * 2 ^ 200 < 2 ^ 10 * 2 ^ 200 := Nat.mul_lt_mul_of_pos_right this (Nat.two_pow_pos 200)
    rw [← Nat.pow_add] at this
    exact Nat.lt_trans this (Nat.pow_lt_pow_right (by decide) (by decide))
  have e2 : 1000 * 2 ^ 400 < 2 ^ 800 := by
    have : 1000 < 2 ^ 10 := by decide
    have : 1000 * 2 ^ 400 < 2 ^ 10 * 2 ^ 400 := Nat.mul_lt_mul_of_pos_right this (Nat.two_pow_pos 400)
    rw [← Nat.pow_add] at this
    exact Nat.lt_trans this (Nat.pow_lt_pow_right (by decide) (by decide))
  have l1 := h.len
  refine ⟨fun x hx => (h.ok x hx).1, ?_, ?_, by omega, fun x hx => (h.ok x hx).2.2.mono (by decide)⟩
  · have := (sm_bound (F := (·.2)) (B := 2 ^ 200) (l := ps) fun b hb => ⟨(h.ok b hb).1, Nat.le_of_lt (h.ok b hb).2.1⟩).2
    refine Nat.lt_of_le_of_lt (Nat.le_trans this (Nat.mul_le_mul_right _ (show ps.length ≤ 1000 by omega))) e1
  · have := (sm_bound (F := fun h => ((h.2 * h.1).natAbs : Int)) (B := 2 ^ 400) (l := ps) fun b hb => ⟨Int.natCast_nonneg _, by
      rw [Int.natAbs_natCast]
      exact Nat.le_of_lt ((h.ok b hb).2.1.mul (h.ok b hb).2.2)⟩).2
    refine Nat.lt_of_le_of_lt (Nat.le_trans this (Nat.mul_le_mul_right _ (show ps.length ≤ 1000 by omega))) e2
end Sp
namespace Sp
open PySem L2 Mth Evl
section
variable {K : PySem.W.Frag} {σ : L2.St} {H H' : Hp} {ta tb te : TE} {x y v : V} {p q : P2} {ps qs : List P2} {a : Addr} {D : Ends} {tz : TS}
theorem q_par {i j : Nat} {t : TA} (h : EvA t σ H [x, y]) (k : ∀ H1, Ex H H1 → tz D ((σ.set i (some x)).set j (some y)) H1) : tSeq (tPar i j t) tz D σ H := h H (Ex.refl H) _ fun H1 e => ⟨x, y, rfl, k H1 e⟩
theorem atI_ex {α : Type} (l : List α) {i : Int} (h0 : 0 ≤ i) (h : i < l.length) : ∃ x ∈ l, atI l i = some x := by
  obtain ⟨j, rfl⟩ : ∃ j : Nat, i = (j : Int) := ⟨i.toNat, by omega⟩
  exact ⟨l[j], List.getElem_mem _, atI_nat (List.getElem?_eq_getElem (by omega))⟩
theorem e_isBl {b c : Bool} (ha : Ev ta σ H (.bl b)) (hb : Ev tb σ H (.bl c)) : Ev (tOp rIsB ta tb) σ H (.bl (decide (b = c))) := ev_op ha hb fun H1 _ Q q => ⟨b, c, rfl, rfl, q H1 (Ex.refl _)⟩
theorem e_notBl {b c : Bool} (ha : Ev ta σ H (.bl b)) (hb : Ev tb σ H (.bl c)) : Ev (tOp rNotB ta tb) σ H (.bl (!decide (b = c))) := ev_op ha hb fun H1 _ Q q => ⟨b, c, rfl, rfl, q H1 (Ex.refl _)⟩
theorem e_isi {u : Value} {c : V} {t : Value} {b : Bool} (ha : Ev ta σ H x) (hb : Ev tb σ H c) (hc : ClsV c u) (ht : ∀ H1, Ex H H1 → TyX K H1 x t) (hk : PySem.W.kitOne K t u = some b) : Ev (tCB (rIsi K) (tCons ta (tCons tb tNil))) σ H (.bl b) := fun H1 e Q q =>
  ha H1 e _ fun H2 e2 => hb H2 (e.trans e2) _ fun H3 e3 => ⟨x, c, t, u, b, rfl, hc, ht H3 ((e.trans e2).trans e3), hk, q H3 (e2.trans e3)⟩
theorem ev_lstI {i : Int} {vs : List V} (ha : Ev ta σ H (.ref a)) (hb : Ev tb σ H (.int i)) (h : SqL K H a vs) (hi : atI vs i = some v) : Ev (tOp (rIxL K) ta tb) σ H v := ev_op ha hb (rv_ixL h hi)
end
end Sp

set_option Elab.async false
set_option linter.all false
set_option maxRecDepth 100000
set_option maxHeartbeats 4000000
namespace Sp
open PySem L2 Mth Evl
/-! ### some list of pairs, new or not -/
def SL (te : TE) (σ : L2.St) (H : Hp) (qs : List P2) : Prop := ∀ H1, Ex H H1 → ∀ Q : VK, (∀ p H2, Ex H1 H2 → PL H2 p qs → Q (.ref p) H2) → te σ H1 Q

section
variable {K : PySem.W.Frag} {σ : L2.St} {H H' : Hp} {ta tb te tl : TE} {t tt : TT} {x y v : V} {p q : P2} {ps qs : List P2} {a : Addr} {D : Ends} {tz tu : TS} {tlo thi : TO} {lo hi : Option Int}
theorem SL.mono (e : Ex H H') (h : SL te σ H qs) : SL te σ H' qs := fun H1 e1 Q k => h H1 (e.trans e1) Q k
theorem NL.sl (h : NL te σ H qs) : SL te σ H qs := fun H1 e Q k => h H1 e Q fun p H2 _ e2 g => k p H2 e2 g
theorem sl_of (ha : Ev te σ H (.ref a)) (h : PL H a ps) : SL te σ H ps := fun H1 e Q k => ha H1 e _ fun H2 e2 => k a H2 e2 (h.mono (e.trans e2))
theorem sl_is (h : SL te σ H ps) (e : ps = qs) : SL te σ H qs := e ▸ h
theorem nl_slS (ha : SL ta σ H ps) (h1 : EvO tlo σ H lo) (h2 : EvO thi σ H hi) : NL (tSl (rSlL K) ta tlo thi) σ H (cutQ ps lo hi) := fun H1 e Q k =>
  ha H1 e _ fun a H2 e2 h => h1 H2 (e.trans e2) _ fun H3 e3 => h2 H3 ((e.trans e2).trans e3) _ fun H4 e4 => by
    obtain ⟨vs, g1, g2⟩ := h.mono (e3.trans e4)
    exact ⟨a, vs, rfl, SqL.of g1, fun l nl => k l _ (Evl.fresh_back ((e2.trans e3).trans e4) nl) (((e2.trans e3).trans e4).trans (Ex.new nl)) ⟨_, upd_same, (cut_tps g2 lo hi).mono (Ex.new nl)⟩⟩
theorem nl_catS (ha : SL ta σ H ps) (hb : SL tb σ H qs) (hz : ps.length + qs.length ≤ 100000) : NL (tOp rCat ta tb) σ H (ps ++ qs) := fun H1 e Q k =>
  ha H1 e _ fun l H2 e2 h => hb H2 (e.trans e2) _ fun b H3 e3 g => by
    obtain ⟨vs, h1, h2⟩ := h.mono e3
    obtain ⟨ws, g1, g2⟩ := g
    exact ⟨l, b, vs, ws, rfl, rfl, h1, g1, by rw [pr_len h2, pr_len g2]; exact sz_of hz, fun r nr => k r _ (Evl.fresh_back (e2.trans e3) nr) ((e2.trans e3).trans (Ex.new nr)) ⟨_, upd_same, pr_app (h2.mono (Ex.new nr)) (g2.mono (Ex.new nr))⟩⟩
theorem nl_revS (ha : SL ta σ H ps) : NL (tRevL K ta) σ H ps.reverse := fun H1 e Q k =>
  ha H1 e _ fun a H2 e2 h => by
    obtain ⟨vs, h1, h2⟩ := h
    exact ⟨a, vs, rfl, SqL.of h1, fun l nl => k l _ (Evl.fresh_back e2 nl) (e2.trans (Ex.new nl)) ⟨_, upd_same, pr_rev (h2.mono (Ex.new nl))⟩⟩
theorem e_eqS (ha : SL ta σ H ps) (hb : SL tb σ H qs) : Ev (tOp (rEqD K) ta tb) σ H (.bl (decide (ps = qs))) := fun H1 e Q k =>
  ha H1 e _ fun a H2 e2 h => hb H2 (e.trans e2) _ fun b H3 e3 g => eq_PL (h.mono e3) g (k H3 (e2.trans e3))
theorem e_neS (ha : SL ta σ H ps) (hb : SL tb σ H qs) : Ev (tOp (rNeD K) ta tb) σ H (.bl (!decide (ps = qs))) := fun H1 e Q k =>
  ha H1 e _ fun a H2 e2 h => hb H2 (e.trans e2) _ fun b H3 e3 g => ne_PL (h.mono e3) g (k H3 (e2.trans e3))
theorem e_lenS (ha : SL ta σ H ps) : Ev (tCB (fun xs H Q => ∃ p ys, xs = [.ref p] ∧ (SqL K H p ys ∨ SqT K H p ys) ∧ Q (.int ys.length) H) (tCons ta tNil)) σ H (.int (ps.length : Int)) := fun H1 e Q k =>
  ha H1 e _ fun a H2 e2 h => by
    obtain ⟨vs, h1, h2⟩ := h
    have := k H2 e2
    rw [← pr_len h2] at this
    exact ⟨a, vs, rfl, .inl (SqL.of h1), this⟩
theorem np_ixS {i : Int} (ha : SL ta σ H ps) (hb : Ev tb σ H (.int i)) (hi : atI ps i = some q) : NP (tOp (rIxL K) ta tb) σ H q := fun H1 e Q k =>
  ha H1 e _ fun l H2 e2 h => hb H2 (e.trans e2) _ fun H3 e3 => by
    obtain ⟨vs, h1, h2⟩ := h.mono e3
    obtain ⟨j, hj, hq⟩ : ∃ j, ixN ps.length i = some j ∧ ps[j]? = some q := by
      unfold atI at hi
      cases hx : ixN ps.length i with
      | none => rw [hx] at hi; cases hi
      | some j => rw [hx] at hi; exact ⟨j, rfl, hi⟩
    obtain ⟨v, hv, tv⟩ := pr_get2 h2 hq
    exact ⟨l, vs, i, v, rfl, rfl, SqL.of h1, by unfold atI; rw [pr_len h2, hj]; exact hv, k v H3 (e2.trans e3) tv⟩
theorem nl_sorted (ha : SL ta σ H ps) : NL (tCB (rSortedPO K) (tCons ta tNil)) σ H (sortP ps) := fun H1 e Q k =>
  ha H1 e _ fun a H2 e2 h => do_sorted h fun l ys nl ht => k l _ (Evl.fresh_back e2 nl) (e2.trans (Ex.new nl)) ⟨ys, upd_same, ht.mono (Ex.new nl)⟩
/-! comprehensions over pairs -/
theorem lcP_core {i j : Nat} {vs : List Nat} (f : P2 → Bool) (R : Hp → List V → List P2 → Prop) (hR0 : ∀ H, R H [] []) (hm : ∀ H H' vs qs, Ex H H' → R H vs qs → R H' vs qs)
    (hu : ∀ H D xs ys vs qs, H D = some (.lst xs) → R H vs qs → R (upd H D (.lst ys)) vs qs)
    (hw : ∀ x y, wipe (((wipe σ vs).set i (some x)).set j (some y)) vs = wipe σ vs) (hs : SL tl σ H ps) (hz : ps.length ≤ 50000)
    (ht : ∀ q ∈ ps, ∀ H1, Ex H H1 → EvT tt (((wipe σ vs).set i (some (.int q.1))).set j (some (.int q.2))) H1 (f q))
    (he : ∀ q ∈ ps, f q = true → ∀ H1, Ex H H1 → ∀ acc qs, R H1 acc qs → ∀ Q : VK, (∀ v H2, Ex H1 H2 → R H2 (acc ++ [v]) (qs ++ [q]) → Q v H2) → te (((wipe σ vs).set i (some (.int q.1))).set j (some (.int q.2))) H1 Q) :
    ∀ H1, Ex H H1 → ∀ Q : VK, (∀ p H2 vs, H1 p = none → Ex H1 H2 → H2 p = some (.lst vs) → R H2 vs (ps.filter f) → Q (.ref p) H2) → tLc (iList K tl) (gTup K 2 (gCons (gName i) (gCons (gName j) gNil))) tt te vs σ H1 Q := fun H0 e0 Q k =>
  hs H0 e0 _ fun a H1 e1 hp => by
    obtain ⟨xs, hx, hxp⟩ := hp
    refine ⟨a, rfl, ⟨xs, SqL.of hx⟩, fun Dl hD => ?_⟩
    have nad : a ≠ Dl := fun z => by rw [z, hD] at hx; cases hx
    refine lc_list (xs := xs) (fun n H' => ∃ acc, Ex H1 H' ∧ H' Dl = some (.lst acc) ∧ H' a = some (.lst xs) ∧ Tps H' xs ps ∧ R H' acc ((ps.take n).filter f) ∧ acc.length ≤ n)
      ⟨[], Ex.new hD, upd_same, by rw [upd_ne nad]; exact hx, hxp.mono (Ex.new hD), hR0 _, Nat.le_refl _⟩ (fun n H' _ ⟨_, _, _, h, _⟩ => SqL.of h) ?_ ?_
    · rintro n x H' hn ⟨acc, e2, hd, ha, ht2, hr, hl⟩
      obtain ⟨q, hq, tq⟩ := pr_get ht2 hn
      refine g_pair tq ⟨hw _ _, ?_⟩
      have hqm := List.mem_of_getElem? hq
      have hnl : n < ps.length := (List.getElem?_eq_some_iff.mp hq).1
      rw [take_snoc hq, List.filter_append]
      have e02 := (e0.trans e1).trans e2
      refine ht q hqm H' e02 H' (Ex.refl _) _ fun H3 e3 => ?_
      cases hf : f q with
      | true =>
        rw [if_pos rfl]
        refine he q hqm hf H3 (e02.trans e3) acc _ (hm _ _ _ _ e3 hr) _ fun v H4 e4 hr4 => ?_
        have hd4 := e4 _ _ (e3 _ _ hd)
        refine ⟨acc, hd4, sz_lt (by omega), acc ++ [v], Ex.mut ((e2.trans e3).trans e4) hD, upd_same, by rw [upd_ne nad]; exact e4 _ _ (e3 _ _ ha), ((ht2.mono e3).mono e4).upd hd4, ?_, by rw [List.length_append, List.length_singleton]; omega⟩
        have e5 : [q].filter f = [q] := by simp [hf]
        rw [e5]
        exact hu _ _ _ _ _ _ hd4 hr4
      | false =>
        rw [if_neg Bool.false_ne_true]
        have e5 : [q].filter f = [] := by simp [hf]
        rw [e5, List.append_nil]
        exact ⟨acc, e2.trans e3, e3 _ _ hd, e3 _ _ ha, ht2.mono e3, hm _ _ _ _ e3 hr, by omega⟩
    · rintro H' ⟨acc, e2, hd, ha, ht2, hr, hl⟩
      have el := pr_len hxp
      rw [el, List.take_length] at hr
      exact k Dl H' acc (Evl.fresh_back e1 hD) (e1.trans e2) hd hr
/-- values -/
theorem lcP_val {i j : Nat} {vs : List Nat} (f : P2 → Bool) (g : P2 → V) (hw : ∀ x y, wipe (((wipe σ vs).set i (some x)).set j (some y)) vs = wipe σ vs) (hs : SL tl σ H ps) (hz : ps.length ≤ 50000)
    (ht : ∀ q ∈ ps, ∀ H1, Ex H H1 → EvT tt (((wipe σ vs).set i (some (.int q.1))).set j (some (.int q.2))) H1 (f q))
    (he : ∀ q ∈ ps, f q = true → ∀ H1, Ex H H1 → Ev te (((wipe σ vs).set i (some (.int q.1))).set j (some (.int q.2))) H1 (g q)) :
    EvL (tLc (iList K tl) (gTup K 2 (gCons (gName i) (gCons (gName j) gNil))) tt te vs) σ H ((ps.filter f).map g) := fun H1 e Q k =>
  lcP_core f (fun _ vs qs => vs = qs.map g) (fun _ => rfl) (fun _ _ _ _ _ h => h) (fun _ _ _ _ _ _ _ h => h) hw hs hz ht (fun q hq hf H1 e1 acc qs hr Q k => he q hq hf H1 e1 H1 (Ex.refl _) Q fun H2 e2 => k _ H2 e2 (by rw [hr, List.map_append]; rfl)) H1 e Q
    fun p H2 vs np e2 hp hr => k p H2 np e2 (by rw [hp, hr])
theorem et_yes : EvT tYes σ H true := fun H1 _ _ q => q H1 (Ex.refl _)
theorem lcP_all {i j : Nat} {vs : List Nat} (g : P2 → V) (hw : ∀ x y, wipe (((wipe σ vs).set i (some x)).set j (some y)) vs = wipe σ vs) (hs : SL tl σ H ps) (hz : ps.length ≤ 50000)
    (he : ∀ q ∈ ps, ∀ H1, Ex H H1 → Ev te (((wipe σ vs).set i (some (.int q.1))).set j (some (.int q.2))) H1 (g q)) :
    EvL (tLc (iList K tl) (gTup K 2 (gCons (gName i) (gCons (gName j) gNil))) tYes te vs) σ H (ps.map g) := by
  have := lcP_val (K := K) (tt := tYes) (fun _ => true) g hw hs hz (fun _ _ _ _ => et_yes) (fun q hq _ => he q hq)
  rw [List.filter_eq_self.mpr (fun _ _ => rfl)] at this
  exact this
/-- pairs -/
theorem lcP_pair {i j : Nat} {vs : List Nat} (f : P2 → Bool) (g : P2 → P2) (hw : ∀ x y, wipe (((wipe σ vs).set i (some x)).set j (some y)) vs = wipe σ vs) (hs : SL tl σ H ps) (hz : ps.length ≤ 50000)
    (ht : ∀ q ∈ ps, ∀ H1, Ex H H1 → EvT tt (((wipe σ vs).set i (some (.int q.1))).set j (some (.int q.2))) H1 (f q))
    (he : ∀ q ∈ ps, f q = true → ∀ H1, Ex H H1 → NP te (((wipe σ vs).set i (some (.int q.1))).set j (some (.int q.2))) H1 (g q)) :
    NL (tLc (iList K tl) (gTup K 2 (gCons (gName i) (gCons (gName j) gNil))) tt te vs) σ H ((ps.filter f).map g) := fun H1 e Q k =>
  lcP_core f (fun H vs qs => Tps H vs (qs.map g)) (fun _ => .nil) (fun _ _ _ _ e h => h.mono e) (fun _ _ _ _ _ _ hd h => h.upd hd) hw hs hz ht (fun q hq hf H1 e1 acc qs hr Q k => he q hq hf H1 e1 H1 (Ex.refl _) Q fun v H2 e2 tv => k _ H2 e2 (by rw [List.map_append]; exact pr_app (hr.mono e2) (.cons tv .nil))) H1 e Q
    fun p H2 vs np e2 hp hr => k p H2 np e2 ⟨vs, hp, hr⟩
theorem lcP_pairs {i j : Nat} {vs : List Nat} (g : P2 → P2) (hw : ∀ x y, wipe (((wipe σ vs).set i (some x)).set j (some y)) vs = wipe σ vs) (hs : SL tl σ H ps) (hz : ps.length ≤ 50000)
    (he : ∀ q ∈ ps, ∀ H1, Ex H H1 → NP te (((wipe σ vs).set i (some (.int q.1))).set j (some (.int q.2))) H1 (g q)) :
    NL (tLc (iList K tl) (gTup K 2 (gCons (gName i) (gCons (gName j) gNil))) tYes te vs) σ H (ps.map g) := by
  have := lcP_pair (K := K) (tt := tYes) (fun _ => true) g hw hs hz (fun _ _ _ _ => et_yes) (fun q hq _ => he q hq)
  rw [List.filter_eq_self.mpr (fun _ _ => rfl)] at this
  exact this
/-- over pairs by one name: a value of each -/
theorem lcN_all {i : Nat} {vs : List Nat} (g : P2 → V) (hw : ∀ x, wipe ((wipe σ vs).set i (some x)) vs = wipe σ vs) (hs : SL tl σ H ps) (hz : ps.length ≤ 50000)
    (he : ∀ q ∈ ps, ∀ H1 x, Ex H H1 → Tp H1 x q → Ev te ((wipe σ vs).set i (some x)) H1 (g q)) :
    EvL (tLc (iList K tl) (gName i) tYes te vs) σ H (ps.map g) := fun H0 e0 Q k =>
  hs H0 e0 _ fun a H1 e1 hp => by
    obtain ⟨xs, hx, hxp⟩ := hp
    refine ⟨a, rfl, ⟨xs, SqL.of hx⟩, fun Dl hD => ?_⟩
    have nad : a ≠ Dl := fun z => by rw [z, hD] at hx; cases hx
    refine lc_list (xs := xs) (fun n H' => Ex H1 H' ∧ H' Dl = some (.lst ((ps.take n).map g)) ∧ H' a = some (.lst xs) ∧ Tps H' xs ps)
      ⟨Ex.new hD, upd_same, by rw [upd_ne nad]; exact hx, hxp.mono (Ex.new hD)⟩ (fun n H' _ ⟨_, _, h, _⟩ => SqL.of h) ?_ ?_
    · rintro n x H' hn ⟨e2, hd, ha, ht2⟩
      obtain ⟨q, hq, tq⟩ := pr_get ht2 hn
      refine ⟨hw _, ?_⟩
      have hnl : n < ps.length := (List.getElem?_eq_some_iff.mp hq).1
      have e02 := (e0.trans e1).trans e2
      refine he q (List.mem_of_getElem? hq) H' x e02 tq H' (Ex.refl _) _ fun H3 e3 => ⟨_, e3 _ _ hd, sz_lt (by rw [List.length_map, List.length_take]; omega), Ex.mut (e2.trans e3) hD, ?_, by rw [upd_ne nad]; exact e3 _ _ ha, (ht2.mono e3).upd (e3 _ _ hd)⟩
      rw [take_snoc hq, List.map_append]
      exact upd_same
    · rintro H' ⟨e2, hd, ha, ht2⟩
      have el := pr_len hxp
      rw [el, List.take_length] at hd
      exact k Dl H' (Evl.fresh_back e1 hD) (e1.trans e2) hd
/-! sums, all, any -/
theorem e_sum {ns : List Int} (h : EvL ta σ H (ns.map V.int)) : Ev (tCB (rSum K) (tCons ta tNil)) σ H (.int ns.sum) := fun H1 e Q k =>
  h H1 e _ fun p H2 _ e2 hp => ⟨p, ns, rfl, SqL.of hp, k H2 e2⟩
theorem e_any {bs : List Bool} (h : EvL ta σ H (bs.map V.bl)) : Ev (tCB (rAny K) (tCons ta tNil)) σ H (.bl (bs.any id)) := fun H1 e Q k =>
  h H1 e _ fun p H2 _ e2 hp => ⟨p, bs, rfl, SqL.of hp, k H2 e2⟩
theorem e_all {bs : List Bool} (h : EvL ta σ H (bs.map V.bl)) : Ev (tCB (rAll K) (tCons ta tNil)) σ H (.bl (bs.all id)) := fun H1 e Q k =>
  h H1 e _ fun p H2 _ e2 hp => ⟨p, bs, rfl, SqL.of hp, k H2 e2⟩
theorem el_is {xs ys : List V} (h : EvL ta σ H xs) (e : xs = ys) : EvL ta σ H ys := e ▸ h
theorem e_intB {b : Bool} (h : Ev ta σ H (.bl b)) : Ev (tCB (fun xs H Q => (∃ i, xs = [.int i] ∧ Q (.int i) H) ∨ ∃ k, xs = [.bl k] ∧ Q (.int (if k then 1 else 0)) H) (tCons ta tNil)) σ H (.int (if b then 1 else 0)) := fun H1 e Q k =>
  h H1 e _ fun H2 e2 => .inr ⟨b, rfl, k H2 e2⟩
/-- a <= b <= c -/
theorem e_chain {i j k : Int} (ha : Ev ta σ H (.int i)) (hb : Ev tb σ H (.int j)) (hc : Ev te σ H (.int k)) :
    Ev (tChain (rI0 fun i j => .bl (decide (i ≤ j))) (rI0 fun i j => .bl (decide (i ≤ j))) ta tb te) σ H (.bl (decide (i ≤ j) && decide (j ≤ k))) := fun H1 e Q q =>
  ha H1 e _ fun H2 e2 => hb H2 (e.trans e2) _ fun H3 e3 => ⟨i, j, rfl, rfl, decide (i ≤ j), rfl, by
    by_cases c : i ≤ j
    · rw [decide_eq_true c] at q ⊢
      rw [if_pos rfl]
      exact hc H3 ((e.trans e2).trans e3) _ fun H4 e4 => ⟨j, k, rfl, rfl, by rw [Bool.true_and] at q; exact q H4 ((e2.trans e3).trans e4)⟩
    · rw [decide_eq_false c] at q ⊢
      rw [if_neg Bool.false_ne_true]
      rw [Bool.false_and] at q
      exact q H3 (e2.trans e3)⟩
theorem e_eqIV {i j : Int} (ha : Ev ta σ H (.int i)) (hb : Ev tb σ H (.int j)) : Ev (tOp rEq ta tb) σ H (.bl (decide (i = j))) := ev_is2 (ev_op ha hb (rv_eq rfl)) (by congr 1; rw [Bool.eq_iff_iff]; simp)
theorem e_neIV {i j : Int} (ha : Ev ta σ H (.int i)) (hb : Ev tb σ H (.int j)) : Ev (tOp rNe ta tb) σ H (.bl (!decide (i = j))) := ev_is2 (ev_op ha hb (rv_ne rfl)) (by congr 2; rw [Bool.eq_iff_iff]; simp)
theorem e_neB {b c : Bool} (ha : Ev ta σ H (.bl b)) (hb : Ev tb σ H (.bl c)) : Ev (tOp rNe ta tb) σ H (.bl (!decide (b = c))) := ev_is2 (ev_op ha hb (rv_ne rfl)) (by congr 2; rw [Bool.eq_iff_iff]; simp)
theorem e_geV {i j : Int} (ha : Ev ta σ H (.int i)) (hb : Ev tb σ H (.int j)) : Ev (tOp (rI0 fun i j => .bl (decide (j ≤ i))) ta tb) σ H (.bl (decide (j ≤ i))) := ev_op ha hb (rv_I0 (g := fun i j => .bl (decide (j ≤ i))))
end
end Sp

set_option Elab.async false
set_option linter.all false
set_option maxRecDepth 100000
set_option maxHeartbeats 4000000
namespace Sp
open PySem L2 Mth
open Evl (Ex)
theorem bd_tri {n : Nat} {i : Int} (h : Bd n i) : Bd (n + (n + 1)) (i * (i + 1) / 2) := by
  have h2 : Bd (n + (n + 1)) (i * (i + 1)) := by
    by_cases z : n = 0
    · subst z
      have : i = 0 := by unfold Bd at h; omega
      subst this
      unfold Bd; decide
    · refine Bd.mul h (Bd.add h ?_)
      unfold Bd
      exact Nat.one_lt_two_pow z
  exact h2.le (Int.natAbs_ediv_le_natAbs _ _)
theorem Sm.perm {N M : Int} {l m : List P2} (p : l.Perm m) (h : Sm N M l) : Sm N M m := ⟨fun b hb => h.pos b (p.mem_iff.mpr hb), by rw [← sm_perm _ p]; exact h.cnt, by rw [← sm_perm _ p]; exact h.tot⟩
theorem Sm.app {N M : Int} : ∀ {rest st : List P2}, Sm N M (st ++ rest) → Sm N M (rest.foldl Mth.push st)
  | [], st, h => by rw [List.append_nil] at h; exact h
  | c :: r, st, h => by
    refine Sm.app (rest := r) (st := Mth.push st c) ?_
    have h1 : Sm N M (c :: (st ++ r)) := h.perm (by
      rw [show st ++ c :: r = st ++ ([c] ++ r) from rfl]
      exact List.perm_middle)
    -- push on st alone; the rest beside
    have h2 : ∀ (st : List P2) (c : P2), Sm N M (c :: (st ++ r)) → Sm N M (Mth.push st c ++ r) := by
      intro st
      induction st with
      | nil => intro c h; exact h
      | cons a t ih =>
        intro c h
        show Sm N M ((if bFirst c ≤ bEnd a then Mth.push t (Mth.bAdd a c) else c :: a :: t) ++ r)
        split
        · exact ih (Mth.bAdd a c) (Sm.bAdd (st := t ++ r) h)
        · exact h
    exact h2 st c h1
theorem groups_sm {hs : List P2} (h : Ok hs) : Sm (sm (·.2) hs) (sm (fun h => ((h.2 * h.1).natAbs : Int)) hs) (groups hs) := by
  have key : ∀ l : List P2, Ok l → Sm (sm (·.2) l) (sm (fun h => ((h.2 * h.1).natAbs : Int)) l) ((l.filter fun h => decide (0 < h.2)).map fun h => (h.2, h.2 * h.1)) := by
    intro l
    induction l with
    | nil => intro _; exact ⟨(fun _ h => nomatch h), Int.le_refl _, Int.le_refl _⟩
    | cons x r ih =>
      intro hl
      obtain ⟨i1, i2, i3⟩ := ih fun y hy => hl y (List.mem_cons_of_mem _ hy)
      have hx := hl x List.mem_cons_self
      rw [sm_cons, sm_cons]
      by_cases c : 0 < x.2
      · rw [List.filter_cons_of_pos (by simpa using c), List.map_cons]
        refine ⟨fun b hb => ?_, ?_, ?_⟩
        · rcases List.mem_cons.mp hb with rfl | hb
          · exact c
          · exact i1 b hb
        · rw [sm_cons]; show x.2 + _ ≤ _; omega
        · rw [sm_cons]; show ((x.2 * x.1).natAbs : Int) + _ ≤ _; omega
      · rw [List.filter_cons_of_neg (by simpa using c)]
        exact ⟨i1, by omega, by omega⟩
  have := key (sortP hs) (h.perm (sortP_perm hs))
  rw [sm_perm _ (sortP_perm hs), sm_perm _ (sortP_perm hs)] at this
  exact this
theorem stack_sm {hs : List P2} (h : Ok hs) : Sm (sm (·.2) hs) (sm (fun h => ((h.2 * h.1).natAbs : Int)) hs) (stack hs) := by
  rw [← groups_stack]
  exact Sm.app (by rw [List.nil_append]; exact groups_sm h)
theorem Sz.small {N M : Int} {hs l : List P2} (sz : Sz hs) (h : Sm (sm (·.2) hs) (sm (fun h => ((h.2 * h.1).natAbs : Int)) hs) l) {b : P2} (hb : b ∈ l) : 0 < b.1 ∧ Bd 400 b.1 ∧ Bd 800 b.2 := by
  obtain ⟨h1, h2, h3⟩ := h.mem hb
  exact ⟨h1, sz.cnt.le (by omega), sz.tot.le (by omega)⟩
theorem bFirst_bd {b : P2} (h1 : Bd 400 b.1) (h2 : Bd 800 b.2) : Bd 803 (bFirst b) := by
  have hs : Bd 801 (b.1 * (b.1 + 1) / 2) := (bd_tri h1).mono (by decide)
  have one1 : Bd 802 1 := Nat.one_lt_two_pow (by decide)
  refine Bd.add (n := 802) ?_ one1
  refine Bd.le (j := b.2 - b.1 * (b.1 + 1) / 2) ?_ (Int.natAbs_ediv_le_natAbs _ _)
  unfold Bd at *
  rw [show 802 = 801 + 1 from rfl, Nat.pow_succ]
  have : 2 ^ 800 ≤ 2 ^ 801 := Nat.pow_le_pow_right (by decide) (by decide)
  omega
theorem join1_mem {J : List P2} {p q : P2} (h : q ∈ join1 J p) : (q.1 = p.1 ∨ ∃ z ∈ J, q.1 = z.1) ∧ (q.2 = p.2 ∨ ∃ z ∈ J, q.2 = z.2) := by
  cases J with
  | nil =>
    rcases List.mem_singleton.mp h with rfl
    exact ⟨.inl rfl, .inl rfl⟩
  | cons a r =>
    rw [show join1 (a :: r) p = if a.2 + 1 = p.1 then (a.1, p.2) :: r else p :: a :: r from rfl] at h
    split at h
    · rcases List.mem_cons.mp h with rfl | h
      · exact ⟨.inr ⟨a, List.mem_cons_self, rfl⟩, .inl rfl⟩
      · exact ⟨.inr ⟨q, List.mem_cons_of_mem _ h, rfl⟩, .inr ⟨q, List.mem_cons_of_mem _ h, rfl⟩⟩
    · rcases List.mem_cons.mp h with rfl | h
      · exact ⟨.inl rfl, .inl rfl⟩
      · exact ⟨.inr ⟨q, h, rfl⟩, .inr ⟨q, h, rfl⟩⟩
theorem joins_mem : ∀ {ps J : List P2} {q : P2}, q ∈ ps.foldl join1 J → (∃ z, (z ∈ J ∨ z ∈ ps) ∧ q.1 = z.1) ∧ ∃ z, (z ∈ J ∨ z ∈ ps) ∧ q.2 = z.2
  | [], J, q, h => ⟨⟨q, .inl h, rfl⟩, ⟨q, .inl h, rfl⟩⟩
  | p :: r, J, q, h => by
    obtain ⟨⟨z1, m1, e1⟩, ⟨z2, m2, e2⟩⟩ := joins_mem (ps := r) (J := join1 J p) h
    refine ⟨?_, ?_⟩
    · rcases m1 with m1 | m1
      · rcases (join1_mem m1).1 with e | ⟨w, hw, e⟩
        · exact ⟨p, .inr List.mem_cons_self, e1.trans e⟩
        · exact ⟨w, .inl hw, e1.trans e⟩
      · exact ⟨z1, .inr (List.mem_cons_of_mem _ m1), e1⟩
    · rcases m2 with m2 | m2
      · rcases (join1_mem m2).2 with e | ⟨w, hw, e⟩
        · exact ⟨p, .inr List.mem_cons_self, e2.trans e⟩
        · exact ⟨w, .inl hw, e2.trans e⟩
      · exact ⟨z2, .inr (List.mem_cons_of_mem _ m2), e2⟩
theorem stretch_bd {hs : List P2} (sz : Sz hs) : ∀ p ∈ stretches hs, Bd 810 p.1 ∧ Bd 810 p.2 := by
  have key : ∀ p ∈ (stack hs).reverse.flatMap bParts, Bd 810 p.1 ∧ Bd 810 p.2 := by
    intro p hp
    obtain ⟨b, hb, hp⟩ := List.mem_flatMap.mp hp
    obtain ⟨h0, h1, h2⟩ := sz.small (N := 0) (M := 0) (stack_sm sz.ok) (List.mem_reverse.mp hb)
    have hf := bFirst_bd h1 h2
    obtain ⟨i1, i2, i3⟩ := parts_in h0 hp
    have he : bEnd b ≤ bFirst b + b.1 := by
      obtain ⟨g1, g2⟩ := bGap_bounds h0
      unfold bEnd
      unfold bLast at *
      split <;> omega
    have p1 : 2 ^ 400 ≤ 2 ^ 803 := Nat.pow_le_pow_right (by decide) (by decide)
    have p2 : 2 ^ 803 + 2 ^ 803 ≤ 2 ^ 810 := by
      have : 2 ^ 804 ≤ 2 ^ 810 := Nat.pow_le_pow_right (by decide) (by decide)
      rw [show 804 = 803 + 1 from rfl, Nat.pow_succ] at this
      omega
    unfold Bd at *
    omega
  intro p hp
  have hp : p ∈ joins ((stack hs).reverse.flatMap bParts) := List.mem_reverse.mp hp
  obtain ⟨⟨z1, m1, e1⟩, ⟨z2, m2, e2⟩⟩ := joins_mem hp
  rw [e1, e2]
  refine ⟨?_, ?_⟩
  · rcases m1 with m | m
    · exact nomatch m
    · exact (key z1 m).1
  · rcases m2 with m | m
    · exact nomatch m
    · exact (key z2 m).2
end Sp
namespace Sp
open PySem L2 Mth Evl
section
variable {K : PySem.W.Frag} {σ : L2.St} {H H' : Hp} {ta tb te to ti : TE} {x y v : V} {p q : P2} {ps qs : List P2} {a l : Addr} {D : Ends} {tz : TS}
theorem pr_erase {α β : Type} {F : α → β → Prop} {xs : List α} {ys : List β} (n : Nat) (h : Paired F xs ys) : Paired F (xs.eraseIdx n) (ys.eraseIdx n) := by
  induction h generalizing n with
  | nil => exact .nil
  | cons r t ih =>
    cases n with
    | zero => exact t
    | succ n => exact .cons r (ih n)
/-- l[i] = pair -/
theorem q_setP {j : Nat} (hl : PL H l ps) (h : NP te σ H q) (ho : Ev to σ H (.ref l)) (hi : Ev ti σ H (.int (j : Int))) (hj : j < ps.length)
    (k : ∀ H1 vs vs', Ex H H1 → H1 l = some (.lst vs) → Tps (upd H1 l (.lst vs')) vs' (ps.set j q) → tz D σ (upd H1 l (.lst vs'))) : tSeq (tAsg te (gSub to ti rSetL)) tz D σ H :=
  h H (Ex.refl _) _ fun v H1 e1 tv => ho H1 e1 _ fun H2 e2 => hi H2 (e1.trans e2) _ fun H3 e3 => by
    obtain ⟨vs, h1, h2⟩ := hl.mono ((e1.trans e2).trans e3)
    refine ⟨l, vs, (j : Int), j, rfl, rfl, h1, ixN_nat (by rw [pr_len h2]; exact hj), ?_⟩
    exact k H3 vs (vs.set j v) ((e1.trans e2).trans e3) h1 (pr_set j (h2.upd h1) ((tv.mono (e2.trans e3)).upd h1))
/-- l.pop(i) -/
theorem q_popAt {j : Nat} (hl : PL H l ps) (ho : Ev to σ H (.ref l)) (hi : Ev ti σ H (.int (j : Int))) (hj : j < ps.length) (hz : ps.length ≤ 100000)
    (k : ∀ H1 vs vs', Ex H H1 → H1 l = some (.lst vs) → Tps (upd H1 l (.lst vs')) vs' (ps.eraseIdx j) → tz D σ (upd H1 l (.lst vs'))) : tSeq (tDrop (tBM K "list" rPopAt to (tCons ti tNil))) tz D σ H :=
  ho H (Ex.refl _) _ fun H1 e1 => by
    obtain ⟨vs, h1, h2⟩ := hl.mono e1
    refine ⟨.inl ⟨rfl, _, SqL.of h1⟩, hi H1 e1 _ fun H2 e2 => ?_⟩
    have h1' := e2 _ _ h1
    have h2' := h2.mono e2
    have hjv : j < vs.length := by rw [pr_len h2]; exact hj
    refine ⟨l, vs, (j : Int), j, vs[j]'hjv, rfl, rfl, h1', by omega, by omega, (ixN_seq (ixN_nat hjv)).1, List.getElem?_eq_getElem hjv, ?_⟩
    exact k H2 vs (vs.eraseIdx j) (e1.trans e2) h1' (pr_erase j (h2'.upd h1'))
/-- l.append(pair) -/
theorem q_appP (hl : PL H l ps) (ho : Ev to σ H (.ref l)) (h : NP te σ H q) (hz : ps.length < 100000)
    (k : ∀ H1 vs vs', Ex H H1 → H1 l = some (.lst vs) → Tps (upd H1 l (.lst vs')) vs' (ps ++ [q]) → tz D σ (upd H1 l (.lst vs'))) : tSeq (tDrop (tBM K "list" rAppend to (tCons te tNil))) tz D σ H :=
  ho H (Ex.refl _) _ fun H1 e1 => by
    obtain ⟨vs, h1, h2⟩ := hl.mono e1
    refine ⟨.inl ⟨rfl, _, SqL.of h1⟩, h H1 e1 _ fun v H2 e2 tv => ?_⟩
    have h1' := e2 _ _ h1
    exact ⟨l, vs, v, rfl, rfl, h1', by rw [pr_len h2]; exact sz_lt hz, k H2 vs (vs ++ [v]) (e1.trans e2) h1' (pr_app ((h2.mono e2).upd h1') (.cons (tv.upd h1') .nil))⟩
theorem s_appP (hl : PL H l ps) (ho : Ev to σ H (.ref l)) (h : NP te σ H q) (hz : ps.length < 100000)
    (k : ∀ H1 vs vs', Ex H H1 → H1 l = some (.lst vs) → Tps (upd H1 l (.lst vs')) vs' (ps ++ [q]) → D.nx σ (upd H1 l (.lst vs'))) : tDrop (tBM K "list" rAppend to (tCons te tNil)) D σ H :=
  q_appP (tz := fun D σ H => D.nx σ H) (D := D) hl ho h hz k
/-- l.pop(), thrown away -/
theorem q_popL {to : TE} (hl : PL H l (ps ++ [q])) (ho : Ev to σ H (.ref l)) (k : ∀ H1 vs vs', Ex H H1 → H1 l = some (.lst vs) → Tps (upd H1 l (.lst vs')) vs' ps → tz D σ (upd H1 l (.lst vs'))) : tSeq (tDrop (tBM0 K "list" rPop to)) tz D σ H :=
  ho H (Ex.refl _) _ fun H1 e1 => by
    obtain ⟨vs, h1, h2⟩ := hl.mono e1
    obtain ⟨us, x, rfl, r1, r2⟩ := pr_last h2
    refine ⟨.inl ⟨rfl, _, SqL.of h1⟩, l, _, x, rfl, rfl, h1, last_at _ _, ?_⟩
    rw [List.dropLast_concat]
    exact k H1 _ us e1 h1 (Tps.upd h1 r1)
theorem et_isN {b : Bool} (ha : Ev ta σ H x) (e : decide (x = .non) = b) : EvT (tTest (tOp (fun x y H Q => y = .non ∧ Q (.bl (decide (x = .non))) H) ta (tC .non))) σ H b := et_test (ev_is2 (ev_op (y := .non) ha ev_c fun H1 _ Q q => ⟨rfl, q H1 (Ex.refl _)⟩) (by rw [e]))
/-- for x in a list of pairs that is made there -/
theorem q_forS {tl : TE} {g : TG} {tu : TS} (h : SL tl σ H ps) (Pv : Addr → List V → Nat → L2.St → Hp → Prop) (h0 : ∀ p vs H1, Ex H H1 → H1 p = some (.lst vs) → Tps H1 vs ps → Pv p vs 0 σ H1) (hl : ∀ p vs i σ' H', i ≤ vs.length → Pv p vs i σ' H' → SqL K H' p vs)
    (hs : ∀ p vs i x σ' H', vs[i]? = some x → Pv p vs i σ' H' → g x σ' H' fun σ2 H2 => tu { D with nx := Pv p vs (i + 1), ct := Pv p vs (i + 1), bk := tz D } σ2 H2) (hd : ∀ p vs σ' H', vs.length = ps.length → Pv p vs vs.length σ' H' → tz D σ' H') : tSeq (tFor (iList K tl) g tu) tz D σ H :=
  h H (Ex.refl H) _ fun p H1 e hp => by
    obtain ⟨vs, h1, h2⟩ := hp
    exact ⟨p, rfl, ⟨vs, sq_of h1⟩, for_list (Pv p vs) (h0 p vs H1 e h1 h2) (hl p vs) (hs p vs) (hd p vs · · (pr_len h2))⟩
theorem s_forS {tl : TE} {g : TG} {tu : TS} (h : SL tl σ H ps) (Pv : Addr → List V → Nat → L2.St → Hp → Prop) (h0 : ∀ p vs H1, Ex H H1 → H1 p = some (.lst vs) → Tps H1 vs ps → Pv p vs 0 σ H1) (hl : ∀ p vs i σ' H', i ≤ vs.length → Pv p vs i σ' H' → SqL K H' p vs)
    (hs : ∀ p vs i x σ' H', vs[i]? = some x → Pv p vs i σ' H' → g x σ' H' fun σ2 H2 => tu { D with nx := Pv p vs (i + 1), ct := Pv p vs (i + 1), bk := D.nx } σ2 H2) (hd : ∀ p vs σ' H', vs.length = ps.length → Pv p vs vs.length σ' H' → D.nx σ' H') : tFor (iList K tl) g tu D σ H :=
  q_forS (tz := fun D σ H => D.nx σ H) h Pv h0 hl hs hd
/-- .. a new list -/
theorem s_forN {tl : TE} {g : TG} {tu : TS} (h : NL tl σ H ps) (Pv : Addr → List V → Nat → L2.St → Hp → Prop) (h0 : ∀ p vs H1, H p = none → Ex H H1 → H1 p = some (.lst vs) → Tps H1 vs ps → Pv p vs 0 σ H1) (hl : ∀ p vs i σ' H', i ≤ vs.length → Pv p vs i σ' H' → SqL K H' p vs)
    (hs : ∀ p vs i x σ' H', vs[i]? = some x → Pv p vs i σ' H' → g x σ' H' fun σ2 H2 => tu { D with nx := Pv p vs (i + 1), ct := Pv p vs (i + 1), bk := D.nx } σ2 H2) (hd : ∀ p vs σ' H', vs.length = ps.length → Pv p vs vs.length σ' H' → D.nx σ' H') : tFor (iList K tl) g tu D σ H :=
  h H (Ex.refl H) _ fun p H1 np e hp => by
    obtain ⟨vs, h1, h2⟩ := hp
    exact ⟨p, rfl, ⟨vs, sq_of h1⟩, for_list (Pv p vs) (h0 p vs H1 np e h1 h2) (hl p vs) (hs p vs) (hd p vs · · (pr_len h2))⟩
end
end Sp

set_option Elab.async false
set_option linter.all false
set_option maxRecDepth 100000
set_option maxHeartbeats 1000000
namespace Sp
open PySem L2 Mth Evl
/-- some list of values, new or not -/
def VL (te : TE) (σ : L2.St) (H : Hp) (xs : List V) : Prop := ∀ H1, Ex H H1 → ∀ Q : VK, (∀ p H2, Ex H1 H2 → H2 p = some (.lst xs) → Q (.ref p) H2) → te σ H1 Q
section
variable {K : PySem.W.Frag} {σ : L2.St} {H H' : Hp} {ta tb te tl : TE} {tt : TT} {x y v : V} {xs ys : List V} {a : Addr} {D : Ends} {tz tu : TS}
theorem vl_of (ha : Ev te σ H (.ref a)) (h : H a = some (.lst xs)) : VL te σ H xs := fun H1 e Q k => ha H1 e _ fun H2 e2 => k a H2 e2 (e2 _ _ (e _ _ h))
theorem vl_new (h : EvL te σ H xs) : VL te σ H xs := fun H1 e Q k => h H1 e Q fun p H2 _ e2 hp => k p H2 e2 hp
theorem el_cat (ha : VL ta σ H xs) (hb : VL tb σ H ys) (hz : xs.length + ys.length ≤ 100000) : EvL (tOp rCat ta tb) σ H (xs ++ ys) := fun H1 e Q k =>
  ha H1 e _ fun l H2 e2 h => hb H2 (e.trans e2) _ fun b H3 e3 g =>
    ⟨l, b, xs, ys, rfl, rfl, e3 _ _ h, g, sz_of hz, fun r nr => k r _ (Evl.fresh_back (e2.trans e3) nr) ((e2.trans e3).trans (Ex.new nr)) upd_same⟩
theorem ev_ixV {i : Int} (ha : VL ta σ H xs) (hb : Ev tb σ H (.int i)) (hi : atI xs i = some v) : Ev (tOp (rIxL K) ta tb) σ H v := fun H1 e Q k =>
  ha H1 e _ fun l H2 e2 h => hb H2 (e.trans e2) _ fun H3 e3 => ⟨l, xs, i, v, rfl, rfl, SqL.of (e3 _ _ h), hi, k H3 (e2.trans e3)⟩
/-- a comprehension over values -/
theorem lcV_all {i : Nat} {vs : List Nat} (g : V → V) (hw : ∀ x, wipe ((wipe σ vs).set i (some x)) vs = wipe σ vs) (hs : VL tl σ H xs) (hz : xs.length ≤ 50000)
    (he : ∀ x ∈ xs, ∀ H1, Ex H H1 → Ev te ((wipe σ vs).set i (some x)) H1 (g x)) : EvL (tLc (iList K tl) (gName i) tYes te vs) σ H (xs.map g) := fun H0 e0 Q k =>
  hs H0 e0 _ fun a H1 e1 hx => by
    refine ⟨a, rfl, ⟨xs, SqL.of hx⟩, fun Dl hD => ?_⟩
    have nad : a ≠ Dl := fun z => by rw [z, hD] at hx; cases hx
    refine lc_list (xs := xs) (fun n H' => Ex H1 H' ∧ H' Dl = some (.lst ((xs.take n).map g)) ∧ H' a = some (.lst xs))
      ⟨Ex.new hD, upd_same, by rw [upd_ne nad]; exact hx⟩ (fun n H' _ ⟨_, _, h⟩ => SqL.of h) ?_ ?_
    · rintro n x H' hn ⟨e2, hd, ha⟩
      refine ⟨hw _, ?_⟩
      have hnl : n < xs.length := (List.getElem?_eq_some_iff.mp hn).1
      have e02 := (e0.trans e1).trans e2
      refine he x (List.mem_of_getElem? hn) H' e02 H' (Ex.refl _) _ fun H3 e3 => ⟨_, e3 _ _ hd, sz_lt (by rw [List.length_map, List.length_take]; omega), Ex.mut (e2.trans e3) hD, ?_, by rw [upd_ne nad]; exact e3 _ _ ha⟩
      rw [take_snoc hn, List.map_append]
      exact upd_same
    · rintro H' ⟨e2, hd, ha⟩
      rw [List.take_length] at hd
      exact k Dl H' (Evl.fresh_back e1 hD) (e1.trans e2) hd
/-- .. over a written tuple -/
theorem lcT_all {i : Nat} {vs : List Nat} {ta : TA} (g : V → V) (hw : ∀ x, wipe ((wipe σ vs).set i (some x)) vs = wipe σ vs) (hs : EvA ta σ H xs) (hz : xs.length ≤ 50000)
    (he : ∀ x ∈ xs, ∀ H1, Ex H H1 → Ev te ((wipe σ vs).set i (some x)) H1 (g x)) : EvL (tLc (iTup K (tTup ta)) (gName i) tYes te vs) σ H (xs.map g) := fun H0 e0 Q k =>
  hs H0 e0 _ fun H1 e1 => ⟨sz_of (by omega), fun a na => by
    have ea := Ex.new (o := .tup xs) na
    refine ⟨a, rfl, ⟨xs, SqT.of upd_same⟩, fun Dl hD => ?_⟩
    have nad : a ≠ Dl := fun z => by rw [← z, upd_same] at hD; cases hD
    refine lc_tup (xs := xs) (fun n H' => Ex H1 H' ∧ H' Dl = some (.lst ((xs.take n).map g)) ∧ H' a = some (.tup xs))
      ⟨ea.trans (Ex.new hD), upd_same, by rw [upd_ne nad]; exact upd_same⟩ (fun n H' _ ⟨_, _, h⟩ => SqT.of h) ?_ ?_
    · rintro n x H' hn ⟨e2, hd, ha⟩
      refine ⟨hw _, ?_⟩
      have hnl : n < xs.length := (List.getElem?_eq_some_iff.mp hn).1
      have e02 := (e0.trans e1).trans e2
      have hD1 : H1 Dl = none := by rw [upd_ne nad.symm] at hD; exact hD
      refine he x (List.mem_of_getElem? hn) H' e02 H' (Ex.refl _) _ fun H3 e3 => ⟨_, e3 _ _ hd, sz_lt (by rw [List.length_map, List.length_take]; omega), Ex.mut (e2.trans e3) hD1, ?_, by rw [upd_ne nad]; exact e3 _ _ ha⟩
      rw [take_snoc hn, List.map_append]
      exact upd_same
    · rintro H' ⟨e2, hd, ha⟩
      rw [List.take_length] at hd
      have hD1 : H1 Dl = none := by rw [upd_ne nad.symm] at hD; exact hD
      exact k Dl H' (Evl.fresh_back e1 hD1) (e1.trans e2) hd⟩
/-- an if without else, what follows shown once -/
theorem q_whenJ {t : TT} {b : Bool} (M : L2.St → Hp → Prop) (h : EvT t σ H b) (k : ∀ σ' H', M σ' H' → tz D σ' H') (h1 : b = true → ∀ H1, Ex H H1 → (∀ σ' H', M σ' H' → tz D σ' H') → tu { D with nx := tz D } σ H1) (h2 : b = false → ∀ H1, Ex H H1 → M σ H1) : tSeq (tIfS t tu tNext) tz D σ H :=
  q_when h (fun hb H1 e => h1 hb H1 e k) fun hb H1 e => k σ H1 (h2 hb H1 e)
/-- for x in a written tuple -/
theorem s_forTw {j : Nat} {ta : TA} (hs : EvA ta σ H xs) (hz : xs.length ≤ 50000) (Pv : Nat → L2.St → Hp → Prop) (hm : ∀ i σ' H' H2, Ex H' H2 → Pv i σ' H' → Pv i σ' H2) (h0 : ∀ H1, Ex H H1 → Pv 0 σ H1)
    (hx : ∀ i x σ' H', xs[i]? = some x → Pv i σ' H' → tu { D with nx := fun σ2 H2 => Ex H' H2 ∧ Pv (i + 1) σ2 H2, ct := fun σ2 H2 => Ex H' H2 ∧ Pv (i + 1) σ2 H2, bk := D.nx } (σ'.set j (some x)) H') (hd : ∀ σ' H', Pv xs.length σ' H' → D.nx σ' H') : tFor (iTup K (tTup ta)) (gName j) tu D σ H :=
  hs H (Ex.refl _) _ fun H1 e1 => ⟨sz_of (by omega), fun a na => ⟨a, rfl, ⟨xs, SqT.of upd_same⟩, by
    refine ⟨fun i m σ' H' => m = xs.length - i ∧ i ≤ xs.length ∧ SqT K H' a xs ∧ Pv i σ' H', ⟨_, rfl, Nat.zero_le _, SqT.of upd_same, h0 _ (e1.trans (Ex.new na))⟩, ?_⟩
    rintro i m σ' H' ⟨rfl, hi, hq, p⟩
    by_cases hlt : i < xs.length
    · refine .inr ⟨⟨xs, xs[i], hq, by simp [hlt]⟩, fun σ2 H2 => Ex H' H2 ∧ Pv (i + 1) σ2 H2, fun σ2 H2 ⟨e2, p2⟩ => ⟨xs.length - (i + 1), by omega, rfl, hlt, ex_t e2 hq, p2⟩, fun x H2 y => ?_⟩
      obtain ⟨e, y⟩ := y
      subst e
      exact hx i x σ' _ (y xs hq) p
    · have e : i = xs.length := by omega
      subst e
      exact .inl ⟨⟨xs, hq, Nat.le_refl _⟩, hd σ' H' p⟩⟩⟩
end
end Sp

set_option Elab.async false
set_option linter.all false
set_option maxRecDepth 100000
set_option maxHeartbeats 1000000
namespace Sp
open PySem L2 Mth PyProof PyProof.Rows
/-! ### range(a, b) of any whole numbers -/
def iRngW : TA → TI := fun ta σ H R => ta σ H fun vs H1 => ∃ i j : Int, vs = [.int i, .int j] ∧ R (Itr i (j - i).toNat) H1
theorem turn_long {P : Program} {w : World} {K : PySem.W.Frag} {tg : Expr} (it : Addr) (lo : Int) (n : Nat) :
    Turn P w K tg (Itr lo n) [it] it fun i h => i ≤ n ∧ IsLongIter h it (lo + (i : Int) * 1) ((n : Int) - i) 1 where
  mem := by simp
  obj := fun i h st b hb => by
    rcases List.mem_singleton.mp hb with rfl
    exact ⟨_, st.2, fun v z => nomatch z⟩
  keep := fun i h h' st k => ⟨st.1, k it (by simp) _ st.2⟩
  item := fun X hP hw hK hc i pins s σ H E I hf st hg => by
    subst hP
    subst hw
    obtain ⟨f0, f1, f2, f3, f4, f5⟩ := hf it (by simp)
    have W := Walks.longrange (prog := X.prog) (w := X.w) (I.ok.hd hc) it lo 1 n
    refine W.item i s _ E hg st.2 fun v h' tk hv st' kk => ?_
    obtain ⟨t, rfl⟩ := hv
    have hg : i < n := hg
    refine ⟨_, rfl, go_of st' rfl rfl (by decide) ⟨.int (lo + i), H, Inv.turned I (fun b o hb e => kk b o (by simpa using hb) e) f0 f1 f3 f4 f5, ⟨t, ?_⟩, ⟨rfl, rfl⟩, ⟨by omega, st'⟩, fun b hb => (hf b hb).1⟩⟩
    rw [Int.mul_one]
  done := fun X hP hw hK hc i pins s σ H E I hf st hg => by
    subst hP
    subst hw
    obtain ⟨f0, f1, f2, f3, f4, f5⟩ := hf it (by simp)
    have W := Walks.longrange (prog := X.prog) (w := X.w) (I.ok.hd hc) it lo 1 n
    obtain ⟨h1, h2⟩ := st
    have hg : n ≤ i := hg
    have e : i = n := by omega
    subst e
    exact W.done s _ E h2 fun h' tk kk => ⟨rfl, Inv.turned I (fun b o hb e => kk b o (by simpa using hb) e) f0 f1 f3 f4 f5⟩
  self := fun A i s Q E st h => wpAny_pyIter_longiter st.2 h
theorem rangeW_it {X : Cx} {tg : Expr} {pins : List (Addr × Obj)} {σ : L2.St} {H : Hp} {s : Shared} {R : It → Hp → Prop} {E : Value → Shared → Prop} {lo hi : Int} {t u v : Tok} {tk : Nat} (I : L2.Inv X pins σ H s) (q : R (Itr lo (hi - lo).toNat) H) :
    wpAny (model X.prog X.w) X.A (pyIter (Value.ref s.heap.objs.size)) (PIE X pins σ tg R) E
      { heap := s.heap.push { cls := Value.type "range", data := Data.fields #[Value.int lo t, Value.int hi u, Value.int 1 v] }, gens := s.gens, drawn := s.drawn, toks := tk, os := s.os } := by
  have I1 := Inv.kept (t' := tk) I fun b o e => Heap.get?_push_of_some (h := s.heap) { cls := Value.type "range", data := Data.fields #[Value.int lo t, Value.int hi u, Value.int 1 v] } e
  have sz : Builtin.Range.rangeSize lo hi 1 = ((hi - lo).toNat : Int) := by
    unfold Builtin.Range.rangeSize
    rw [if_pos (by decide)]
    split <;> omega
  cases hs : Builtin.Range.small lo hi 1 with
  | true =>
    refine wpAny_pyIter_range (IsRange.new s.1 lo hi 1 t u v) hs ?_
    refine ⟨_, [_], _, Itr lo (hi - lo).toNat, H, rfl, Inv.kept I1 fun b o e => Heap.get?_push_of_some _ e, turn_range _ lo (hi - lo).toNat, ?_, ?_, q⟩
    · rw [sz, show lo + ((0 : Nat) : Int) * 1 = lo by omega, show (((hi - lo).toNat : Nat) : Int) - ((0 : Nat) : Int) = ((hi - lo).toNat : Int) by omega]
      exact Heap.get?_push_size _ rfl
    · intro b hb
      rcases List.mem_singleton.mp hb with rfl
      exact Inv.fpOk I1 (Nat.le_refl _) (HOk.fresh I1.hok (Nat.le_refl _))
  | false =>
    refine wpAny_pyIter_longrange (IsRange.new s.1 lo hi 1 t u v) hs ?_
    refine ⟨_, [_], _, Itr lo (hi - lo).toNat, H, rfl, Inv.kept I1 fun b o e => Heap.get?_push_of_some _ e, turn_long _ lo (hi - lo).toNat, ⟨Nat.zero_le _, ?_⟩, ?_, q⟩
    · rw [sz, show lo + ((0 : Nat) : Int) * 1 = lo by omega, show (((hi - lo).toNat : Nat) : Int) - ((0 : Nat) : Int) = ((hi - lo).toNat : Int) by omega]
      exact Heap.get?_push_size _ rfl
    · intro b hb
      rcases List.mem_singleton.mp hb with rfl
      exact Inv.fpOk I1 (Nat.le_refl _) (HOk.fresh I1.hok (Nat.le_refl _))
theorem pi_rangeW {X : Cx} {tg a b : Expr} {ta : TA} {p pos : Pos} (hg : Gl X (Str.ofString "range")) (hm : X.mg (Str.ofString "range") = none) (ha : PA X [a, b] ta) (hs : starEach [a, b] X.env = [(false, eval a X.env), (false, eval b X.env)] := by rfl) (hs2 : starEach [b] X.env = [(false, eval b X.env)] := by rfl) :
    PI X tg ((Expr.Name (Str.ofString "range") p).Call [a, b] [] pos) (iRngW ta) where
  run := fun pins s σ H R I h => by
    refine Call_ (ld_blt I hg hm boot_range (Rows.callWith_type1 (thn (ha.run pos pins s σ H _ I h) fun us s1 x => ?_) (by rw [hs, hs2]) (by rw [hs2]; rfl)) (by decide) (by decide)) rfl
    obtain ⟨vs, H1, I1, r1, i, j, rfl, q⟩ := x
    cases r1 with
    | cons r rr =>
      cases rr with
      | cons r' rr' =>
        cases rr'
        obtain ⟨t, rfl⟩ := r
        obtain ⟨t', rfl⟩ := r'
        exact call_range_2 (rangeW_it I1 q)
open Evl
section
variable {K : PySem.W.Frag} {σ : L2.St} {H : Hp} {te : TE} {ta : TA}
/-- pairs of the whole numbers of a range -/
theorem nl_rng {i : Nat} {vs : List Nat} {lo hi : Int} (g : Int → P2) (hw : ∀ x, wipe ((wipe σ vs).set i (some x)) vs = wipe σ vs) (hs : EvA ta σ H [.int lo, .int hi]) (hz : (hi - lo).toNat ≤ 50000)
    (he : ∀ k H1, Ex H H1 → NP te ((wipe σ vs).set i (some (.int k))) H1 (g k)) : NL (tLc (iRngW ta) (gName i) tYes te vs) σ H ((List.range (hi - lo).toNat).map fun (k : Nat) => g (lo + (k : Int))) := fun H0 e0 Q k =>
  hs H0 e0 _ fun H1 e1 => ⟨lo, hi, rfl, fun Dl hD => by
    refine lc_range (lo := lo) (n := (hi - lo).toNat) (fun n H' => ∃ acc, Ex H1 H' ∧ H' Dl = some (.lst acc) ∧ Tps H' acc ((List.range n).map fun (k : Nat) => g (lo + (k : Int))) ∧ acc.length ≤ n)
      ⟨[], Ex.new hD, upd_same, .nil, Nat.le_refl _⟩ ?_ ?_
    · rintro n H' hn ⟨acc, e2, hd, ht, hl⟩
      refine ⟨hw _, ?_⟩
      have e02 := (e0.trans e1).trans e2
      refine he (lo + n) H' e02 H' (Ex.refl _) _ fun v H3 e3 tv => ?_
      refine ⟨acc, e3 _ _ hd, sz_lt (by omega), acc ++ [v], Ex.mut (e2.trans e3) hD, upd_same, ?_, by rw [List.length_append, List.length_singleton]; omega⟩
      rw [List.range_succ, List.map_append]
      exact pr_app ((ht.mono e3).upd (e3 _ _ hd)) (.cons (tv.upd (e3 _ _ hd)) .nil)
    · rintro H' ⟨acc, e2, hd, ht, hl⟩
      exact k Dl H' (Evl.fresh_back e1 hD) (e1.trans e2) ⟨acc, hd, ht⟩⟩
end
end Sp

set_option Elab.async false
set_option linter.all false
set_option maxRecDepth 100000
set_option maxHeartbeats 1000000
namespace Sp
open PySem L2 Mth PyProof PyProof.Rows



/-! ### max of a dict's keys -/
def rMaxK : List V → Hp → VK → Prop := fun vs H Q => ∃ (a : Addr) (kvs : List (Key × V)) (is : List Int), vs = [V.ref a] ∧ H a = some (.dK kvs) ∧ kvs.map (·.1) = is.map Sum.inl ∧ is ≠ [] ∧ ∀ m, m ∈ is → (∀ j ∈ is, j ≤ m) → Q (.int m) H
theorem cr_maxK {X : Cx} (hc : X.calm = true) : CallR X (.builtin "max") rMaxK := by
  intro pins s σ H vs us Q I r h
  obtain ⟨a, kvs, is, rfl, ha, hv, hne, q⟩ := h
  rw [Vals.ref1 r]
  obtain ⟨_, hsys, vs, rel, dof⟩ := dk_of I.hok ha
  obtain ⟨ep, dat⟩ := Heap.DictOf.dictAt dof
  obtain ⟨ob, es, ho, hex, hdat, hko, hpr, hnd⟩ := id dat
  have hlt := Heap.lt_size ho
  have hkeys := (KV.keys rel).symm.trans hv
  have hlv : vs.length = is.length := by
    have e1 := congrArg List.length hkeys
    rw [List.length_map, List.length_map] at e1
    exact e1
  have hlen : 0 < vs.length := by rw [hlv]; exact List.length_pos_iff.mpr hne
  have hval : ∀ (i : Nat) (v : Value), (∃ (k : Key) (x : Value), vs[i]? = some (k, x) ∧ (mixKind X.prog X.w).is k v = true) → ∃ t, v = Value.int (is.getD i 0) t := by
    rintro i v ⟨k, x, hk, hkey⟩
    have e1 : (vs.map (·.1))[i]? = some k := by rw [List.getElem?_map, hk]; rfl
    rw [hkeys, List.getElem?_map] at e1
    obtain ⟨j, hj, e2⟩ := Option.map_eq_some_iff.mp e1
    subst e2
    obtain ⟨t, e3⟩ := Value.isInt_shape (show _ from hkey)
    exact ⟨t, by rw [e3, List.getD_eq_getElem?_getD, hj]; rfl⟩
  refine call_max_walk (wpAny_pyIter_dict hsys dat ⟨s.heap.objs.size, [s.heap.objs.size, a], [s.heap.objs.size], vs.length, (fun i v => ∃ (k : Key) (x : Value), vs[i]? = some (k, x) ∧ (mixKind X.prog X.w).is k v = true), (fun i h => h.IsKeyIter s.heap.objs.size a i vs.length ep ∧ Heap.DictAt (mixKind X.prog X.w) h a vs ep), (fun i j => decide (is.getD i 0 > is.getD j 0)), rfl, Walks.dictKeys (A := X.A.in1) (knd := mixKind X.prog X.w) (I.ok.hd hc) s.heap.objs.size a (Nat.ne_of_lt hlt) vs ep, ⟨⟨_, Heap.get?_push_size s.1 rfl, rfl, rfl⟩, Heap.DictAt.keep dat fun b u e => Heap.get?_push_of_some _ e⟩, ?_, hlen, CmpOf.ints_gt (fun i => is.getD i 0) hval, ?_⟩)
  · intro b hb
    show b < _
    rw [Heap.size_push]
    rcases List.mem_cons.mp hb with e | hb
    · rw [e]; exact Nat.lt_succ_self _
    · rw [List.mem_singleton.mp hb]; exact Nat.lt_succ_of_lt hlt
  · intro v h' tk hP hk
    obtain ⟨t, rfl⟩ := hval _ v hP
    obtain ⟨b1, b2⟩ := argBest_gt (fun i => is.getD i 0) (vs.length - 1)
    refine ⟨.int _, H, (show L2.Inv X pins σ H { heap := h', gens := s.gens, drawn := s.drawn, toks := tk, os := s.os } from Inv.kept (s := s) (h' := h') I fun b u e => hk b u (fun hmem => ?_) (Heap.get?_push_of_some _ e)), ⟨t, rfl⟩, q _ ?_ fun j hj => ?_⟩
    · have e1 := List.mem_singleton.mp hmem
      have e2 := Heap.lt_size e
      rw [e1] at e2
      exact absurd e2 (Nat.lt_irrefl _)
    · have hb : argBest (fun i j => decide (is.getD i 0 > is.getD j 0)) (vs.length - 1) < is.length := by omega
      rw [List.getD_eq_getElem?_getD, List.getElem?_eq_getElem hb]
      exact List.getElem_mem hb
    · obtain ⟨i, hi, e⟩ := List.mem_iff_getElem.mp hj
      have e2 : is.getD i 0 = j := by rw [List.getD_eq_getElem?_getD, List.getElem?_eq_getElem hi]; exact e
      have := b2 i (by omega)
      rw [e2] at this
      exact this
end Sp

set_option Elab.async false
set_option linter.all false
set_option maxRecDepth 100000
set_option maxHeartbeats 1000000
namespace Sp
open PySem L2 Mth Evl
/-! ### dicts of whole numbers -/
def encD (ps : List P2) : List (Key × V) := ps.map fun q => (Sum.inl q.1, .int q.2)
def DK (H : Hp) (a : Addr) (ps : List P2) : Prop := H a = some (.dK (encD ps))
theorem encD_len (ps : List P2) : (encD ps).length = ps.length := List.length_map ..
theorem encD_keys (ps : List P2) : (encD ps).map (·.1) = (ps.map (·.1)).map Sum.inl := by unfold encD; rw [List.map_map, List.map_map]; rfl
theorem val_no {x : Int} : ∀ {ps : List P2}, x ∉ ps.map (·.1) → valV (encD ps) (Sum.inl x : Key) = none
  | [], _ => rfl
  | q :: r, h => by
    rw [List.map_cons, List.mem_cons] at h
    show valV (((Sum.inl q.1 : Key), V.int q.2) :: encD r) _ = none
    rw [valV_neg (p := ((Sum.inl q.1 : Key), V.int q.2)) (fun e => h (.inl (Sum.inl.inj e).symm))]
    exact val_no fun z => h (.inr z)
theorem val_at {x : Int} : ∀ {ps : List P2}, Kn ps → x ∈ ps.map (·.1) → valV (encD ps) (Sum.inl x : Key) = some (.int (hadF ps x))
  | [], _, h => nomatch h
  | q :: r, k, h => by
    unfold Kn at k
    rw [List.map_cons, List.nodup_cons] at k
    show valV (((Sum.inl q.1 : Key), V.int q.2) :: encD r) _ = _
    rw [had_cons]
    by_cases e : q.1 = x
    · rw [valV_pos (p := ((Sum.inl q.1 : Key), V.int q.2)) (congrArg Sum.inl e), if_pos e, had_no (by rw [← e]; exact k.1)]
      show some (V.int q.2) = _
      rw [show q.2 + 0 = q.2 by omega]
    · rw [valV_neg (p := ((Sum.inl q.1 : Key), V.int q.2)) (fun z => e (Sum.inl.inj z)), if_neg e, Int.zero_add]
      rw [List.map_cons, List.mem_cons] at h
      exact val_at k.2 (h.resolve_left fun z => e z.symm)
theorem val_get {x : Int} {ps : List P2} (k : Kn ps) : (valV (encD ps) (Sum.inl x : Key)).getD (.int 0) = .int (hadF ps x) := by
  by_cases h : x ∈ ps.map (·.1)
  · rw [val_at k h]; rfl
  · rw [val_no h, had_no h]; rfl
theorem map_skip {x v : Int} : ∀ {ps : List P2}, x ∉ ps.map (·.1) → (encD ps).map (fun kv => if kv.1 = (Sum.inl x : Key) then (kv.1, V.int v) else kv) = encD ps
  | [], _ => rfl
  | q :: r, h => by
    rw [List.map_cons, List.mem_cons] at h
    show (if (Sum.inl q.1 : Key) = Sum.inl x then _ else _) :: (encD r).map _ = _
    rw [if_neg (fun z => h (.inl (Sum.inl.inj z).symm)), map_skip fun z => h (.inr z)]
    rfl
theorem put_enc {x v : Int} {ps : List P2} (k : Kn ps) : putK (encD ps) (Sum.inl x : Key) (.int v) = encD (putP ps x v) := by
  unfold putK
  have an : ((encD ps).any fun kv => decide (kv.1 = (Sum.inl x : Key))) = decide (x ∈ ps.map (·.1)) := by
    rw [Bool.eq_iff_iff, List.any_eq_true, decide_eq_true_eq]
    unfold encD
    constructor
    · rintro ⟨kv, h1, h2⟩
      obtain ⟨q, hq, rfl⟩ := List.mem_map.mp h1
      exact List.mem_map.mpr ⟨q, hq, Sum.inl.inj (of_decide_eq_true h2)⟩
    · intro h
      obtain ⟨q, hq, e⟩ := List.mem_map.mp h
      exact ⟨_, List.mem_map.mpr ⟨q, hq, rfl⟩, decide_eq_true (congrArg Sum.inl e)⟩
  rw [an]
  by_cases h : x ∈ ps.map (·.1)
  · rw [decide_eq_true h, if_pos rfl]
    clear an
    induction ps with
    | nil => exact nomatch h
    | cons q r ih =>
      unfold Kn at k
      rw [List.map_cons, List.nodup_cons] at k
      show (if (Sum.inl q.1 : Key) = Sum.inl x then _ else _) :: (encD r).map _ = _
      unfold putP
      by_cases e : q.1 = x
      · rw [if_pos (congrArg Sum.inl e), if_pos e, map_skip (by rw [← e]; exact k.1)]
        show ((Sum.inl q.1 : Key), V.int v) :: encD r = ((Sum.inl x : Key), V.int v) :: encD r
        rw [e]
      · rw [if_neg (fun z => e (Sum.inl.inj z)), if_neg e]
        rw [List.map_cons, List.mem_cons] at h
        rw [ih k.2 (h.resolve_left fun z => e z.symm)]
        rfl
  · rw [decide_eq_false h, if_neg Bool.false_ne_true]
    clear an
    induction ps with
    | nil => rfl
    | cons q r ih =>
      unfold Kn at k
      rw [List.map_cons, List.nodup_cons] at k
      rw [List.map_cons, List.mem_cons] at h
      unfold putP
      rw [if_neg fun z => h (.inl z.symm)]
      show ((Sum.inl q.1 : Key), V.int q.2) :: (encD r ++ [_]) = ((Sum.inl q.1 : Key), V.int q.2) :: encD _
      rw [ih k.2 fun z => h (.inr z)]
def IL (H : Hp) (a : Addr) (ns : List Int) : Prop := H a = some (.lst (ns.map V.int))
section
variable {K : PySem.W.Frag} {σ : L2.St} {H H' : Hp} {ta tb td te ti tx ty tv tl to : TE} {tt : TT} {x y v : V} {xs : List V} {ps qs : List P2} {ns : List Int} {a w : Addr} {D : Ends} {tz tu : TS}
theorem DK.mono (e : Ex H H') (h : DK H a ps) : DK H' a ps := e _ _ h
theorem e_get {z : Int} (ha : Ev td σ H (.ref a)) (h : DK H a ps) (k : Kn ps) (hk : Ev ty σ H (.int z)) : Ev (tDGet2 td ty (tC (.int 0))) σ H (.int (hadF ps z)) := fun H1 e Q q =>
  ha H1 e _ fun H2 e2 => ⟨a, rfl, .inl ⟨_, .inl (h.mono (e.trans e2))⟩, hk H2 (e.trans e2) _ fun H3 e3 => ⟨_, .inl ⟨_, Sum.inl z, .inl (h.mono ((e.trans e2).trans e3)), rfl, rfl⟩, by rw [val_get k]; exact q H3 (e2.trans e3)⟩⟩
theorem e_sub1 {z : Int} (ha : Ev td σ H (.ref a)) (h : DK H a ps) (k : Kn ps) (hk : Ev ty σ H (.int z)) (hz : z ∈ ps.map (·.1)) : Ev (tDGet td ty) σ H (.int (hadF ps z)) := fun H1 e Q q =>
  ha H1 e _ fun H2 e2 => hk H2 (e.trans e2) _ fun H3 e3 => ⟨a, _, rfl, .inl ⟨_, Sum.inl z, .inl (h.mono ((e.trans e2).trans e3)), rfl, (val_at k hz).symm⟩, q H3 (e2.trans e3)⟩
/-- d[k] = v -/
theorem q_put {z m : Int} (hv : Ev tv σ H (.int m)) (ha : Ev td σ H (.ref a)) (hk : Ev ty σ H (.int z)) (h : DK H a ps) (k : Kn ps) (hl : ps.length < 100000)
    (q : ∀ H1, Ex H H1 → tz D σ (upd H1 a (.dK (encD (putP ps z m))))) : tSeq (sDPut td ty tv) tz D σ H :=
  hv H (Ex.refl _) _ fun H1 e1 => ha H1 e1 _ fun H2 e2 => hk H2 (e1.trans e2) _ fun H3 e3 => by
    have e := (e1.trans e2).trans e3
    refine ⟨a, _, rfl, .inl ⟨_, Sum.inl z, h.mono e, rfl, by rw [encD_len]; exact sz_lt hl, rfl⟩, ?_⟩
    rw [put_enc k]
    exact q H3 e
theorem s_put {z m : Int} (hv : Ev tv σ H (.int m)) (ha : Ev td σ H (.ref a)) (hk : Ev ty σ H (.int z)) (h : DK H a ps) (k : Kn ps) (hl : ps.length < 100000)
    (q : ∀ H1, Ex H H1 → D.nx σ (upd H1 a (.dK (encD (putP ps z m))))) : sDPut td ty tv D σ H :=
  q_put (tz := fun D σ H => D.nx σ H) hv ha hk h k hl q
/-! lists of whole numbers -/
theorem il_dp {H : Hp} (h : IL H a ns) : Dp K H (.ref a) (.list (ns.map .int)) := by
  refine .lst (SqL.of h) ?_
  have : ∀ ns : List Int, DpAll K H (ns.map V.int) (ns.map PyData.int) := by
    intro ns
    induction ns with
    | nil => exact .nil
    | cons a r ih => exact .cons (.int _) ih
  exact this ns
theorem il_shp (ns : List Int) : SeqAt.shaped (.list (ns.map .int)) = true := by
  have l1 : ∀ ns : List Int, PyData.canLayAll0 (ns.map PyData.int) = true := by
    intro ns
    induction ns with
    | nil => rfl
    | cons a r ih => rw [List.map_cons, PyData.canLayAll0, ih]; rfl
  have l2 : ∀ ns : List Int, PyData.depthAll (ns.map PyData.int) ≤ 1 := by
    intro ns
    induction ns with
    | nil => exact Nat.zero_le _
    | cons a r ih =>
      rw [List.map_cons, PyData.depthAll]
      refine Nat.max_le.mpr ⟨?_, ih⟩
      simp [PyData.depth]
  unfold SeqAt.shaped
  rw [Bool.and_eq_true]
  refine ⟨?_, decide_eq_true ?_⟩
  · show PyData.canLay0 (.list (ns.map .int)) = true
    rw [PyData.canLay0]
    exact l1 ns
  · rw [PyData.depth]
    have := l2 ns
    omega
theorem et_neI0 (ha : Ev ta σ H (.ref a)) (h : IL H a ns) : EvT (tTest (tOp (rNeD K) ta (tLst tNil))) σ H (!decide (ns = [])) :=
  et_test fun H1 e Q q => ha H1 e _ fun H2 e2 => ⟨Nat.zero_le _, fun b nb => by
    have e3 := Ex.new (o := .lst []) nb
    refine ⟨_, _, il_dp (e3 _ _ ((e.trans e2) _ _ h)), il_dp (ns := []) (show _ = _ from upd_same), il_shp ns, il_shp [], ?_⟩
    have : (PyData.list (ns.map .int)).eqv (.list (([] : List Int).map .int)) = decide (ns = []) := by
      simp only [PyData.eqv]
      cases ns with
      | nil => simp [PyData.eqvAll]
      | cons a r => simp [PyData.eqvAll]
    rw [this]
    exact q _ (e2.trans e3)⟩
theorem idx_of {m : Int} : ∀ {ns : List Int}, m ∈ ns → ∃ j : Nat, ns[j]? = some m ∧ ∀ i : Nat, i < j → ns[i]? ≠ some m
  | [], h => nomatch h
  | b :: r, h => by
    by_cases e : b = m
    · exact ⟨0, by rw [e]; rfl, fun i hi => by omega⟩
    · obtain ⟨j, h1, h2⟩ := idx_of (ns := r) ((List.mem_cons.mp h).resolve_left fun z => e z.symm)
      refine ⟨j + 1, h1, fun i hi => ?_⟩
      cases i with
      | zero => intro z; exact e (Option.some.inj z)
      | succ i => exact h2 i (by omega)
/-- l.remove(x) -/
theorem q_rem {m : Int} (ho : Ev to σ H (.ref w)) (he : Ev te σ H (.int m)) (h : IL H w ns) (hm : m ∈ ns) (k : ∀ H1 (ns' : List Int), Ex H H1 → IL H1 w ns → (∀ y ∈ ns, y ≠ m → y ∈ ns') → (∀ y ∈ ns', y ∈ ns) → ns'.length + 1 = ns.length → tz D σ (upd H1 w (.lst (ns'.map V.int)))) :
    tSeq (tDrop (tBM K "list" rRemI to (tCons te tNil))) tz D σ H :=
  ho H (Ex.refl _) _ fun H1 e1 => ⟨.inl ⟨rfl, _, SqL.of (e1 _ _ h)⟩, he H1 e1 _ fun H2 e2 => by
    obtain ⟨j, h1, h2⟩ := idx_of hm
    have hj := (List.getElem?_eq_some_iff.mp h1).1
    refine ⟨w, ns, m, j, rfl, rfl, (e1.trans e2) _ _ h, h1, h2, ?_⟩
    refine k H2 (ns.eraseIdx j) (e1.trans e2) ((e1.trans e2) _ _ h) (fun y hy hne => ?_) (fun y hy => List.mem_of_mem_eraseIdx hy) ?_
    · obtain ⟨i, hi⟩ := List.mem_iff_getElem?.mp hy
      refine List.mem_eraseIdx_iff_getElem?.mpr ⟨i, fun z => ?_, hi⟩
      rw [z, h1] at hi
      exact hne (Option.some.inj hi).symm
    · rw [List.length_eraseIdx, if_pos hj]
      omega⟩
/-- the least or the greatest, as it comes -/
theorem least_of : ∀ {ns : List Int}, ns ≠ [] → ∃ m ∈ ns, ∀ y ∈ ns, m ≤ y
  | [], h => absurd rfl h
  | a :: r, _ => by
    by_cases e : r = []
    · subst e; exact ⟨a, List.mem_cons_self, fun y hy => by rcases List.mem_singleton.mp hy with rfl; exact Int.le_refl _⟩
    · obtain ⟨m, h1, h2⟩ := least_of e
      by_cases c : a ≤ m
      · refine ⟨a, List.mem_cons_self, fun y hy => ?_⟩
        rcases List.mem_cons.mp hy with rfl | hy
        · exact Int.le_refl _
        · have := h2 y hy; omega
      · refine ⟨m, List.mem_cons_of_mem _ h1, fun y hy => ?_⟩
        rcases List.mem_cons.mp hy with rfl | hy
        · omega
        · exact h2 y hy
theorem q_pick {b : Bool} {i : Nat} (ht : EvT tt σ H b) (ha : Ev ta σ H (.ref w)) (h : IL H w ns) (hne : ns ≠ []) (k : ∀ m ∈ ns, ∀ H1, Ex H H1 → tz D (σ.set i (some (.int m))) H1) :
    tSeq (tAsg (tIf tt (tCB (rMin K) (tCons ta tNil)) (tCB (rMax K) (tCons ta tNil))) (gName i)) tz D σ H :=
  ht H (Ex.refl _) _ fun H1 e1 => by
    have hl : 0 < ns.length := List.length_pos_iff.mpr hne
    cases b with
    | true =>
      rw [if_pos rfl]
      exact ha H1 e1 _ fun H2 e2 => ⟨w, ns, rfl, SqL.of ((e1.trans e2) _ _ h), hl, fun m hm _ => k m hm H2 (e1.trans e2)⟩
    | false =>
      rw [if_neg Bool.false_ne_true]
      exact ha H1 e1 _ fun H2 e2 => ⟨w, ns, rfl, SqL.of ((e1.trans e2) _ _ h), hl, fun m hm _ => k m hm H2 (e1.trans e2)⟩
/-- some new list of whole numbers of a kind -/
def LI (te : TE) (σ : L2.St) (H : Hp) (L : Nat) (P : Int → Prop) : Prop := ∀ H1, Ex H H1 → ∀ Q : VK, (∀ p H2 ns, H1 p = none → Ex H1 H2 → IL H2 p ns → ns.length ≤ L → (∀ z ∈ ns, P z) → Q (.ref p) H2) → te σ H1 Q
theorem li_cat {L M : Nat} {P : Int → Prop} (ha : LI ta σ H L P) (hb : LI tb σ H M P) (hz : L + M ≤ 100000) : LI (tOp rCat ta tb) σ H (L + M) P := fun H1 e Q k =>
  ha H1 e _ fun l H2 ns _ e2 h hl hp => hb H2 (e.trans e2) _ fun b H3 ms _ e3 g gl gp =>
    ⟨l, b, ns.map V.int, ms.map V.int, rfl, rfl, e3 _ _ h, g, by rw [List.length_map, List.length_map]; exact sz_of (by omega), fun r nr => k r _ (ns ++ ms) (Evl.fresh_back (e2.trans e3) nr) ((e2.trans e3).trans (Ex.new nr)) (by unfold IL; rw [List.map_append]; exact upd_same) (by rw [List.length_append]; omega) fun z hz => by
      rcases List.mem_append.mp hz with hz | hz
      · exact hp z hz
      · exact gp z hz⟩
theorem li_sorted {P : Int → Prop} (ha : Ev ta σ H (.ref a)) (h : DK H a ps) (hl : ps.length < 64) (hp : ∀ y ∈ ps.map (·.1), P y) : LI (tCB (fun xs H Q => ∃ (a : Addr) (kvs : List (Key × V)) (ks : List Int), xs = [.ref a] ∧ Rd H a (.dK kvs) ∧ kvs.map (·.1) = ks.map Sum.inl ∧ ks.length < 64 ∧ ∀ (ys : List Int) (p : Addr), ys.Perm ks → ys.Pairwise (· ≤ ·) → H p = none → Q (.ref p) (upd H p (.lst (ys.map V.int)))) (tCons ta tNil)) σ H 64 P := fun H1 e Q k =>
  ha H1 e _ fun H2 e2 => ⟨a, encD ps, ps.map (·.1), rfl, .inl (h.mono (e.trans e2)), encD_keys ps, by rw [List.length_map]; exact hl, fun ys p hy _ np => k p _ ys (Evl.fresh_back e2 np) (e2.trans (Ex.new np)) upd_same (by rw [hy.length_eq, List.length_map]; omega) fun z hz => hp z (hy.mem_iff.mp hz)⟩
/-- some whole number of a kind -/
def WI (te : TE) (σ : L2.St) (H : Hp) (P : Int → Prop) : Prop := ∀ H1, Ex H H1 → ∀ Q : VK, (∀ m H2, P m → Ex H1 H2 → Q (.int m) H2) → te σ H1 Q
theorem wi_of {m : Int} {P : Int → Prop} (h : Ev te σ H (.int m)) (hp : P m) : WI te σ H P := fun H1 e Q k => h H1 e _ fun H2 e2 => k m H2 hp e2
theorem wi_min {P : Int → Prop} (ha : Ev ta σ H (.ref a)) (h : DK H a ps) (hne : ps ≠ []) (hp : ∀ y ∈ ps.map (·.1), P y) : WI (tCB rMinK (tCons ta tNil)) σ H P := fun H1 e Q k =>
  ha H1 e _ fun H2 e2 => ⟨a, encD ps, ps.map (·.1), rfl, h.mono (e.trans e2), encD_keys ps, by simpa using hne, fun m hm _ => k m H2 (hp m hm) e2⟩
theorem wi_max {P : Int → Prop} (ha : Ev ta σ H (.ref a)) (h : DK H a ps) (hne : ps ≠ []) (hp : ∀ y ∈ ps.map (·.1), P y) : WI (tCB rMaxK (tCons ta tNil)) σ H P := fun H1 e Q k =>
  ha H1 e _ fun H2 e2 => ⟨a, encD ps, ps.map (·.1), rfl, h.mono (e.trans e2), encD_keys ps, by simpa using hne, fun m hm _ => k m H2 (hp m hm) e2⟩
theorem wi_sub {P R : Int → Prop} {c : Int} (ha : WI ta σ H P) (hr : ∀ m, P m → R (m - c)) : WI (tOp (rI0 fun i j => .int (i - j)) ta (tC (.int c))) σ H R := fun H1 e Q k =>
  ha H1 e _ fun m H2 hm e2 => ⟨m, c, rfl, rfl, k _ H2 (hr m hm) e2⟩
theorem wi_add {P R : Int → Prop} {c : Int} (ha : WI ta σ H P) (hr : ∀ m, P m → R (m + c)) : WI (tOp (rI0 fun i j => .int (i + j)) ta (tC (.int c))) σ H R := fun H1 e Q k =>
  ha H1 e _ fun m H2 hm e2 => ⟨m, c, rfl, rfl, k _ H2 (hr m hm) e2⟩
theorem li_three {P : Int → Prop} (ha : WI ta σ H P) (hb : WI tb σ H P) (hc : WI te σ H P) : LI (tLst (tCons ta (tCons tb (tCons te tNil)))) σ H 3 P := fun H1 e Q k =>
  ha H1 e _ fun m1 H2 p1 e2 => hb H2 (e.trans e2) _ fun m2 H3 p2 e3 => hc H3 ((e.trans e2).trans e3) _ fun m3 H4 p3 e4 => ⟨(by show 3 ≤ sizeLine; decide), fun p np => by
    have e5 := (e2.trans e3).trans e4
    refine k p _ [m1, m2, m3] (Evl.fresh_back e5 np) (e5.trans (Ex.new np)) upd_same (Nat.le_refl _) fun z hz => ?_
    simp only [List.mem_cons, List.not_mem_nil, or_false] at hz
    rcases hz with rfl | rfl | rfl
    · exact p1
    · exact p2
    · exact p3⟩
/-- for x in such a list -/
theorem q_forLI {g : TG} {L : Nat} {P : Int → Prop} (h : LI tl σ H L P) (Pv : Addr → List Int → Nat → L2.St → Hp → Prop) (h0 : ∀ p ns H1, Ex H H1 → IL H1 p ns → (∀ z ∈ ns, P z) → Pv p ns 0 σ H1) (hl : ∀ p ns i σ' H', Pv p ns i σ' H' → IL H' p ns)
    (hs : ∀ p ns i z σ' H', P z → Pv p ns i σ' H' → g (.int z) σ' H' fun σ2 H2 => tu { D with nx := Pv p ns (i + 1), ct := Pv p ns (i + 1), bk := tz D } σ2 H2) (hd : ∀ p ns σ' H', Pv p ns ns.length σ' H' → tz D σ' H') : tSeq (tFor (iList K tl) g tu) tz D σ H :=
  h H (Ex.refl H) _ fun p H1 ns _ e hp _ hP => ⟨p, rfl, ⟨_, sq_of hp⟩, for_list (K := K) (a := p) (xs := ns.map V.int) (fun i σ' H' => Pv p ns i σ' H') (h0 p ns H1 e hp hP) (fun i σ' H' _ y => SqL.of (hl p ns i σ' H' y)) (fun i x σ' H' hi y => by
    rw [List.getElem?_map] at hi
    obtain ⟨z, hz, rfl⟩ := Option.map_eq_some_iff.mp hi
    exact hs p ns i z σ' H' (hP z (List.mem_of_getElem? hz)) y) fun σ' H' y => hd p ns σ' H' (by rw [List.length_map] at y; exact y)⟩
/-- a comprehension with a test, over a written tuple of whole numbers -/
theorem lcT_val {i : Nat} {vs : List Nat} {tq : TA} (f : Int → Bool) (hw : ∀ x, wipe ((wipe σ vs).set i (some x)) vs = wipe σ vs) (hi : ∀ x, ((wipe σ vs).set i (some x))[i]? = some (some x)) (hs : EvA tq σ H (ns.map V.int)) (hz : ns.length ≤ 50000)
    (ht : ∀ z ∈ ns, ∀ H1, Ex H H1 → EvT tt ((wipe σ vs).set i (some (.int z))) H1 (f z)) : EvL (tLc (iTup K (tTup tq)) (gName i) tt (tVar i) vs) σ H ((ns.filter f).map V.int) := fun H0 e0 Q k =>
  hs H0 e0 _ fun H1 e1 => ⟨sz_of (by rw [List.length_map]; omega), fun a na => by
    have ea := Ex.new (o := .tup (ns.map V.int)) na
    refine ⟨a, rfl, ⟨_, SqT.of upd_same⟩, fun Dl hD => ?_⟩
    have nad : a ≠ Dl := fun z => by rw [← z, upd_same] at hD; cases hD
    have hD1 : H1 Dl = none := by rw [upd_ne nad.symm] at hD; exact hD
    refine lc_tup (xs := ns.map V.int) (fun n H' => Ex H1 H' ∧ H' Dl = some (.lst (((ns.take n).filter f).map V.int)) ∧ H' a = some (.tup (ns.map V.int)))
      ⟨ea.trans (Ex.new hD), upd_same, by rw [upd_ne nad]; exact upd_same⟩ (fun n H' _ ⟨_, _, h⟩ => SqT.of h) ?_ ?_
    · rintro n x H' hn ⟨e2, hd, ha⟩
      rw [List.getElem?_map] at hn
      obtain ⟨z, hz2, rfl⟩ := Option.map_eq_some_iff.mp hn
      refine ⟨hw _, ?_⟩
      have hnl : n < ns.length := (List.getElem?_eq_some_iff.mp hz2).1
      have e02 := (e0.trans e1).trans e2
      rw [take_snoc hz2, List.filter_append, List.map_append]
      refine ht z (List.mem_of_getElem? hz2) H' e02 H' (Ex.refl _) _ fun H3 e3 => ?_
      cases hf : f z with
      | true =>
        rw [if_pos rfl]
        have e5 : [z].filter f = [z] := by simp [hf]
        rw [e5]
        refine ev_var (hi _) H3 (Ex.refl _) _ fun H4 e4 => ?_
        have hd4 := e4 _ _ (e3 _ _ hd)
        refine ⟨_, hd4, sz_lt (by
          rw [List.length_map]
          have := List.length_filter_le f (ns.take n)
          rw [List.length_take] at this
          omega), Ex.mut ((e2.trans e3).trans e4) hD1, upd_same, by rw [upd_ne nad]; exact e4 _ _ (e3 _ _ ha)⟩
      | false =>
        rw [if_neg Bool.false_ne_true]
        have e5 : [z].filter f = [] := by simp [hf]
        rw [e5, List.map_nil, List.append_nil]
        exact ⟨e2.trans e3, e3 _ _ hd, e3 _ _ ha⟩
    · rintro H' ⟨e2, hd, ha⟩
      rw [List.length_map, List.take_length] at hd
      exact k Dl H' (Evl.fresh_back e1 hD1) (e1.trans e2) hd⟩
/-- [v for k, v in d.items()] -/
theorem el_items {n i j : Nat} {vs : List Nat} (hw : ∀ x y, wipe (((wipe σ vs).set i (some x)).set j (some y)) vs = wipe σ vs) (hj : ∀ x y, (((wipe σ vs).set i (some x)).set j (some y))[j]? = some (some y)) (hv : σ[n]? = some (some (.ref a))) (h : DK H a ps) (hl : ps.length ≤ 50000) :
    EvL (tLockE (tLc (iItems (tVar n)) (gTup K 2 (gCons (gName i) (gCons (gName j) gNil))) tYes (tVar j) vs)) σ H (ps.map fun q => .int q.2) := fun H0 e0 Q k =>
  ⟨a, .dK (encD ps), h.mono e0, trivial, fun od => by
    unfold tLc iItems
    refine ev_var hv _ (Ex.refl _) _ fun H1 e1 => ⟨a, od, encD ps, rfl, e1 _ _ upd_same, fun Dl hD => ?_⟩
    have ha1 : H1 a = some (.frz od (.dK (encD ps))) := e1 _ _ upd_same
    have nad : a ≠ Dl := fun z => by rw [z, hD] at ha1; cases ha1
    have k1 : ∀ b o, b ≠ a → H0 b = some o → H1 b = some o := fun b o hb e => e1 _ _ (by rw [upd_ne hb]; exact e)
    have nD0 : H0 Dl = none := by
      cases e : H0 Dl with
      | none => rfl
      | some o => rw [k1 Dl o nad.symm e] at hD; cases hD
    refine ⟨fun i m H' => m = ps.length - i ∧ i ≤ ps.length ∧ H' a = some (.frz od (.dK (encD ps))) ∧ (∀ b o, b ≠ a → H0 b = some o → H' b = some o) ∧ H' Dl = some (.lst ((ps.take i).map fun q => .int q.2)), ⟨_, rfl, Nat.zero_le _, by rw [upd_ne nad]; exact ha1, fun b o hb e => ?_, upd_same⟩, ?_⟩
    · rw [upd_ne (fun z => by rw [z, nD0] at e; cases e)]
      exact k1 b o hb e
    · rintro i m H' ⟨rfl, hi, ha, hk, hd⟩
      by_cases hlt : i < ps.length
      · refine .inr ⟨⟨ha, by rw [encD_len]; exact hlt⟩, fun H2 => i < ps.length ∧ H2 a = some (.frz od (.dK (encD ps))) ∧ (∀ b o, b ≠ a → H0 b = some o → H2 b = some o) ∧ H2 Dl = some (.lst ((ps.take (i + 1)).map fun q => .int q.2)), fun H2 ⟨_, q1, q2, q3⟩ => ⟨ps.length - (i + 1), by omega, rfl, hlt, q1, q2, q3⟩, ?_⟩
        rintro x H2 ⟨T, kk, v, he, rfl, hT, rfl⟩
        have hq : ps[i]? = some ps[i] := List.getElem?_eq_getElem hlt
        have he2 : (encD ps)[i]? = some ((Sum.inl ps[i].1 : Key), V.int ps[i].2) := by unfold encD; rw [List.getElem?_map, hq]; rfl
        rw [he2] at he
        obtain ⟨rfl, rfl⟩ := Prod.mk.inj (Option.some.inj he)
        have nTa : a ≠ T := fun z => by rw [← z, ha] at hT; cases hT
        have nTD : Dl ≠ T := fun z => by rw [← z, hd] at hT; cases hT
        refine g_pair (p := ps[i]) ⟨T, rfl, upd_same⟩ ⟨hw _ _, ?_⟩
        refine et_yes _ (Ex.refl _) _ fun H3 e3 => ?_
        rw [if_pos rfl]
        refine ev_var (hj _ _) _ (Ex.refl _) _ fun H4 e4 => ?_
        have e24 := e3.trans e4
        have hd4 := e24 _ _ (by rw [upd_ne nTD]; exact hd)
        refine ⟨_, hd4, sz_lt (by rw [List.length_map, List.length_take]; omega), hlt, by rw [upd_ne nad]; exact e24 _ _ (by rw [upd_ne nTa]; exact ha), fun b o hb e => ?_, ?_⟩
        · have nb : b ≠ Dl := fun z => by rw [z, nD0] at e; cases e
          have nbT : b ≠ T := fun z => by have := hk b o hb e; rw [z, hT] at this; cases this
          rw [upd_ne nb]
          exact e24 _ _ (by rw [upd_ne nbT]; exact hk b o hb e)
        · rw [take_snoc hq, List.map_append]
          exact upd_same
      · have e : i = ps.length := by omega
        subst e
        rw [List.take_length] at hd
        refine .inl ⟨⟨ha, by rw [encD_len]; exact Nat.le_refl _⟩, ha, ?_⟩
        refine k Dl _ nD0 (fun b o e => ?_) (by rw [upd_ne nad.symm]; exact hd)
        by_cases hb : b = a
        · subst hb
          rw [upd_same, ← h.mono e0, e]
        · rw [upd_ne hb]
          exact hk b o hb e⟩
/-- for x in a written tuple, whatever is changed meanwhile -/
theorem s_forTm {jj : Nat} {tq : TA} (hs : EvA tq σ H xs) (hz : xs.length ≤ 50000) (Pv : Addr → Nat → L2.St → Hp → Prop) (h0 : ∀ t H1, H t = none → Ex H H1 → H1 t = some (.tup xs) → Pv t 0 σ H1) (hl : ∀ t i σ' H', Pv t i σ' H' → H' t = some (.tup xs))
    (hx : ∀ t i x σ' H', xs[i]? = some x → Pv t i σ' H' → tu { D with nx := Pv t (i + 1), ct := Pv t (i + 1), bk := D.nx } (σ'.set jj (some x)) H') (hd : ∀ t σ' H', Pv t xs.length σ' H' → D.nx σ' H') : tFor (iTup K (tTup tq)) (gName jj) tu D σ H :=
  hs H (Ex.refl _) _ fun H1 e1 => ⟨sz_of (by omega), fun t nt => ⟨t, rfl, ⟨xs, SqT.of upd_same⟩, for_tup (K := K) (a := t) (xs := xs) (Pv t) (h0 t _ (Evl.fresh_back e1 nt) (e1.trans (Ex.new nt)) upd_same) (fun i σ' H' _ y => SqT.of (hl t i σ' H' y)) (fun i x σ' H' hi y => hx t i x σ' H' hi y) fun σ' H' y => hd t σ' H' y⟩⟩
theorem q_forTm {jj : Nat} {tq : TA} (hs : EvA tq σ H xs) (hz : xs.length ≤ 50000) (Pv : Addr → Nat → L2.St → Hp → Prop) (h0 : ∀ t H1, H t = none → Ex H H1 → H1 t = some (.tup xs) → Pv t 0 σ H1) (hl : ∀ t i σ' H', Pv t i σ' H' → H' t = some (.tup xs))
    (hx : ∀ t i x σ' H', xs[i]? = some x → Pv t i σ' H' → tu { D with nx := Pv t (i + 1), ct := Pv t (i + 1), bk := tz D } (σ'.set jj (some x)) H') (hd : ∀ t σ' H', Pv t xs.length σ' H' → tz D σ' H') : tSeq (tFor (iTup K (tTup tq)) (gName jj) tu) tz D σ H :=
  s_forTm (D := { D with nx := tz D }) hs hz Pv h0 hl hx hd
end
end Sp

set_option Elab.async false
set_option linter.all false
set_option maxRecDepth 100000
set_option maxHeartbeats 1000000
namespace Sp
open PySem L2 Mth
open Evl (Ex)
def topS (i : Nat) : Stmt := PySem.Challenge.pw_spreadrow_k02_whole_step_by_step.main.body.getD i (.Pass ⟨0, 0, 0, 0⟩)
abbrev sHeapErrorC : Stmt := topS 2
abbrev sBadHeapsC : Stmt := topS 3
abbrev sBadPlaceC : Stmt := topS 4
abbrev sBlockC : Stmt := topS 10
abbrev sSpreadC : Stmt := topS 14
abbrev sWall : Stmt := topS 0
abbrev sIsNumber : Stmt := topS 6
abbrev sIsHeap : Stmt := topS 7
abbrev sCheckHeaps : Stmt := topS 8
abbrev sCheckPlace : Stmt := topS 9
abbrev sBlockInit : Stmt := inClass sBlockC 0
abbrev sBegin : Stmt := inClass sBlockC 1
abbrev sEnd : Stmt := inClass sBlockC 2
abbrev sRestBlocks : Stmt := topS 11
abbrev sRestStretches : Stmt := topS 12
abbrev sSpreadInit : Stmt := inClass sSpreadC 0
abbrev sShows : Stmt := inClass sSpreadC 1
abbrev sSpread : Stmt := topS 16
abbrev sLeft : Stmt := topS 17
abbrev sGave : Stmt := topS 19
abbrev sAllGave : Stmt := topS 20
abbrev sWayTo : Stmt := topS 21
abbrev sSquares : Stmt := topS 22
abbrev sSquaresTo : Stmt := topS 23
abbrev sLawCellAt : Stmt := topS 25
abbrev sLawDraw : Stmt := topS 26
abbrev sLawGiven : Stmt := topS 27
abbrev sLaw : Stmt := topS 28

end Sp

set_option Elab.async false
set_option linter.all false
set_option maxRecDepth 100000
set_option maxHeartbeats 1000000
namespace Sp
open PySem L2 Mth
open Evl (Ex)
section
variable {P : Program} {w : World} {K : PySem.W.Frag} {mg : Str → Option Value} {base : Heap}
/-! is_number -/
def spIsNumber : Sp := fun vs H Q _ => ∃ i : Int, vs = [.int i] ∧ Q (.bl true) H
theorem scIsNumber : FnScope ["value"] ["value"] (defScope sIsNumber) := ⟨rfl, rfl, rfl, by decide +kernel, rfl, by decide +kernel, by decide +kernel⟩
theorem okIsNumber {f : Addr} {fd : FuncData} (F : Fun K "is_number" "is_number" sIsNumber f fd) (m1 : mg "isinstance" = none) (m2 : mg "int" = none) (m3 : mg "bool" = none) : FnOk P w K mg base CX0 1 f fd ["value"] spIsNumber := by
  refine F.ok scIsNumber (fun vs H Q E h => ?_) (fun cdv A outer s H vs Q E hr h => ?_)
  · obtain ⟨i, rfl, _⟩ := h
    rfl
  · obtain ⟨i, rfl, k⟩ := h
    refine ⟨_, pss_one (ps_ret (pe_and (pe_callB call_isi (by rfl) m1 (by decide +kernel) (pa_cons (pv 0) (pa_cons (pe_bltn (v := .ty "int") (by rfl) m2 (by decide +kernel) rfl) pa_nil)))
      (pe_one (pe_not (pe_callB call_isi (by rfl) m1 (by decide +kernel) (pa_cons (pv 0) (pa_cons (pe_bltn (v := .ty "bool") (by rfl) m3 (by decide +kernel) rfl) pa_nil))))))), ?_⟩
    refine ⟨_, rfl, .int i, .ty "int", _, _, true, rfl, .ty _, .base (.int i), kit_ty (by decide +kernel), true, rfl, ?_⟩
    refine ⟨_, rfl, .int i, .ty "bool", _, _, false, rfl, .ty _, .base (.int i), kit_ty (by decide +kernel), false, rfl, ?_⟩
    exact k
/-! is_heap -/
def spIsHeap : Sp := fun vs H Q _ => ∃ (v : V) (p : P2), vs = [v] ∧ Tp H v p ∧ 0 ≤ p.2 ∧ Q (.bl true) H
theorem scIsHeap : FnScope ["value"] ["value"] (defScope sIsHeap) := ⟨rfl, rfl, rfl, by decide +kernel, rfl, by decide +kernel, by decide +kernel⟩
theorem okIsHeap {f fN : Addr} {fd fdN : FuncData} (F : Fun K "is_heap" "is_heap" sIsHeap f fd) (C : Cl P w K mg base "is_number" 1 ["value"] spIsNumber fN fdN) (m1 : mg "isinstance" = none) (m2 : mg "tuple" = none) (m3 : mg "len" = none) : FnOk P w K mg base CX0 2 f fd ["value"] spIsHeap := by
  refine F.ok scIsHeap (fun vs H Q E h => ?_) (fun cdv A outer s H vs Q E hr h => ?_)
  · obtain ⟨v, p, rfl, _⟩ := h
    rfl
  · obtain ⟨v, p, rfl, ⟨t, rfl, ht⟩, h0, k⟩ := h
    refine ⟨_, pss_cons (ps_if (pw_or (pt_not (pt_val (pe_callB call_isi (by rfl) m1 (by decide +kernel) (pa_cons (pv 0) (pa_cons (pe_bltn (v := .ty "tuple") (by rfl) m2 (by decide +kernel) rfl) pa_nil)))))
        (pw_or1 (pt_cmpR op_ne (pe_callB call_len_seq (by rfl) m3 PySem.boot_len (pa_cons (pv 0) pa_nil)) pe_int (nomark _)))).pt (pss_one (ps_ret pe_bl)) pss_nil)
      (pss_one (ps_ret (pe_and (pe_call C.F hr (by rfl) C.g C.kp C.b .nil pass0 (pa_cons (pe_ix ix_tup (pv 0) pe_int (fun _ _ => rfl)) pa_nil))
        (pe_and (pe_call C.F hr (by rfl) C.g C.kp C.b .nil pass0 (pa_cons (pe_ix ix_tup (pv 0) pe_int (fun _ _ => rfl)) pa_nil))
          (pe_one (pe_cmpR op_ge (pe_ix ix_tup (pv 0) pe_int (fun _ _ => rfl)) pe_int (nomark _))))))), ?_⟩
    refine z_if (b := false) (a_or (a := false) (b := false) ?_ fun _ => ?_) (fun z => nomatch z) fun _ => ?_
    · exact fun Q q => ⟨_, rfl, .ref t, .ty "tuple", _, _, true, rfl, .ty _, .base (.tup ht), kit_ty (by decide +kernel), true, rfl, q⟩
    · exact fun Q q => ⟨_, rfl, t, _, rfl, .inr (SqT.of ht), rfl, _, rfl, q⟩
    · have h0' : Val (tOp (rIxT K) (tVar 0) (tC (.int 0))) [some (V.ref t)] H (.int p.1) := v_tup (val_var rfl) val_c ht (atI_nat (j := 0) rfl)
      have h1' : Val (tOp (rIxT K) (tVar 0) (tC (.int 1))) [some (V.ref t)] H (.int p.2) := v_tup (val_var rfl) val_c ht (atI_nat (j := 1) rfl)
      refine h0' _ ⟨_, rfl, true, rfl, ?_⟩
      refine h1' _ ⟨_, rfl, true, rfl, ?_⟩
      refine h1' _ ⟨_, _, rfl, rfl, ?_⟩
      show Q (.bl (decide (0 ≤ p.2))) H
      rw [decide_eq_true h0]
      exact k
/-! check_heaps -/
def spCheckHeaps : Sp := fun vs H Q _ => ∃ (a : Addr) (ps : List P2), vs = [.ref a] ∧ PL H a ps ∧ Ok ps ∧ Q .non H
theorem scCheckHeaps : FnScope ["heaps", "heap"] ["heaps"] (defScope sCheckHeaps) := ⟨rfl, rfl, rfl, by decide +kernel, rfl, by decide +kernel, by decide +kernel⟩
theorem okCheckHeaps {f fN : Addr} {fd fdN : FuncData} (F : Fun K "check_heaps" "check_heaps" sCheckHeaps f fd) (C : Cl P w K mg base "is_heap" 2 ["value"] spIsHeap fN fdN) (m1 : mg "isinstance" = none) (m2 : mg "list" = none) : FnOk P w K mg base CX0 3 f fd ["heaps"] spCheckHeaps := by
  refine F.ok scCheckHeaps (fun vs H Q E h => ?_) (fun cdv A outer s H vs Q E hr h => ?_)
  · obtain ⟨a, ps, rfl, _⟩ := h
    rfl
  · obtain ⟨a, ps, rfl, ⟨vs, ha, hv⟩, h0, k⟩ := h
    refine ⟨_, pss_cons (ps_if (pt_not (pt_val (pe_callB call_isi (by rfl) m1 (by decide +kernel) (pa_cons (pv 0) (pa_cons (pe_bltn (v := .ty "list") (by rfl) m2 (by decide +kernel) rfl) pa_nil))))) (pss_one ps_never) pss_nil)
      (pss_one (ps_for PassesOwn.never rfl (pi_list (pv 0)) (pg_name (i := 1) scCheckHeaps.nd rfl (Or.inl rfl))
        (pss_one (ps_if (pt_not (pt_val (pe_call C.F hr (by rfl) C.g C.kp C.b .nil pass0 (pa_cons (pv 1) pa_nil)))) (pss_one ps_never) pss_nil)))), ?_⟩
    refine z_if (b := false) (fun Q q => ⟨_, rfl, .ref a, .ty "list", _, _, true, rfl, .ty _, .base (.lst ha), kit_ty (by decide +kernel), true, rfl, q⟩) (fun z => nomatch z) fun _ => ?_
    refine ⟨_, rfl, a, rfl, ⟨_, SqL.of ha⟩, for_list (K := K) (a := a) (xs := vs) (fun i σ H' => H' = H ∧ ∃ o, σ = [some (.ref a), o]) ⟨rfl, _, rfl⟩ (fun i σ H' _ z => by rw [z.1]; exact SqL.of ha) ?_ ?_⟩
    · rintro i x σ H' hi ⟨rfl, o, rfl⟩
      obtain ⟨p, hp, ht⟩ := pr_get hv hi
      refine s_ifs (b := false) (fun Q q => ⟨_, rfl, x, p, rfl, ht, h0 p (List.mem_of_getElem? hp), true, rfl, q⟩) (fun z => nomatch z) fun _ => ?_
      exact ⟨rfl, _, rfl⟩
    · rintro σ H' ⟨rfl, o, rfl⟩
      exact k
/-! a block -/
def bf (b : P2) (l : Addr) : List (Str × V) := [("many", .int b.1), ("total", .int b.2), ("parts", .ref l)]
theorem bf_mk (b : P2) (l : Addr) : putF "parts" (.ref l) (putF "total" (.int b.2) (putF "many" (.int b.1) [])) = bf b l := by
  have h1 : ¬ (("many" : Str) = "total") := by decide +kernel
  have h2 : ¬ (("many" : Str) = "parts") := by decide +kernel
  have h3 : ¬ (("total" : Str) = "parts") := by decide +kernel
  unfold bf
  simp only [putF, if_neg h1, if_neg h2, if_neg h3]
theorem bf_many (b : P2) (l : Addr) : (bf b l).lookup ("many" : Str) = some (.int b.1) := by
  rw [← bf_mk, lookup_putF, if_neg (by decide +kernel), lookup_putF, if_neg (by decide +kernel), lookup_putF, if_pos rfl]
theorem bf_total (b : P2) (l : Addr) : (bf b l).lookup ("total" : Str) = some (.int b.2) := by
  rw [← bf_mk, lookup_putF, if_neg (by decide +kernel), lookup_putF, if_pos rfl]
theorem bf_parts (b : P2) (l : Addr) : (bf b l).lookup ("parts" : Str) = some (.ref l) := by
  rw [← bf_mk, lookup_putF, if_pos rfl]
theorem bf_no (b : P2) (l : Addr) {m : Str} (h1 : ¬ m = "parts") (h2 : ¬ m = "total") (h3 : ¬ m = "many") : (bf b l).lookup m = none := by
  rw [← bf_mk, lookup_putF, if_neg h1, lookup_putF, if_neg h2, lookup_putF, if_neg h3]
  rfl
/-- a Block stands at p; N says what its list's place is not -/
def Bl (C : Addr) (H : Hp) (N : Addr → Prop) (v : V) (b : P2) : Prop := ∃ p dx l, v = .ref p ∧ N l ∧ H p = some (.ins C dx (bf b l)) ∧ PL H l (bParts b)
theorem Bl.mono {C : Addr} {H H' : Hp} {N : Addr → Prop} {v : V} {b : P2} (e : Ex H H') (h : Bl C H N v b) : Bl C H' N v b := by
  obtain ⟨p, dx, l, e1, e2, e3, e4⟩ := h
  exact ⟨p, dx, l, e1, e2, e _ _ e3, e4.mono e⟩
theorem Bl.upd {C : Addr} {H : Hp} {ll : Addr} {N : Addr → Prop} {v : V} {b : P2} {xs ys : List V} (hl : H ll = some (.lst xs)) (hN : ∀ q, N q → q ≠ ll) (h : Bl C H N v b) : Bl C (L2.upd H ll (.lst ys)) N v b := by
  obtain ⟨p, dx, l, e1, e2, e3, e4⟩ := h
  exact ⟨p, dx, l, e1, e2, by rw [upd_ne (ne_of e3 hl (by intro z; cases z))]; exact e3, e4.upd hl (hN _ e2)⟩
structure BTxt (K : PySem.W.Frag) (mg : Str → Option Value) (C : Addr) : Prop where
  cl : Cls K C
  n1 : NoAttr K C "many"
  n2 : NoAttr K C "total"
  n3 : NoAttr K C "parts"
  g : mg "Block" = some (.ref C)
def spBlockInit (C : Addr) : Sp := fun vs H Q _ => ∃ (p dx : Addr) (b : P2), vs = [.ref p, .int b.1, .int b.2] ∧ H p = some (.ins C dx []) ∧ 0 < b.1 ∧ Bd 400 b.1 ∧ Bd 800 b.2 ∧
  ∀ H' l, H l = none → (∀ c o, H c = some o → c ≠ p → H' c = some o) → H' p = some (.ins C dx (bf b l)) → PL H' l (bParts b) → Q .non H'
theorem scBlockInit : FnScope ["self", "many", "total", "steps", "first", "gap", "last"] ["self", "many", "total"] (defScope sBlockInit) := ⟨rfl, rfl, rfl, by decide +kernel, rfl, by decide +kernel, by decide +kernel⟩
theorem okBlockInit {f C : Addr} {fd : FuncData} (F : Fun K "__init__" "Block.__init__" sBlockInit f fd) (T : BTxt K mg C) : FnOk P w K mg base CX0 1 f fd ["self", "many", "total"] (spBlockInit C) := by
  refine F.ok scBlockInit (fun vs H Q E h => ?_) (fun cdv A outer s H vs Q E hr h => ?_)
  · obtain ⟨p, dx, b, rfl, _⟩ := h
    rfl
  · obtain ⟨p, dx, b, rfl, hp, hb, b1, b2, k⟩ := h
    have nd := scBlockInit.nd
    refine ⟨_, pss_cons (ps_set (i := 3) nd rfl (Or.inl rfl) (pe_op op_fdivW (pe_op op_mulW (pv 1) (pe_op op_add (pv 1) pe_int)) pe_int))
      (pss_cons (ps_set (i := 4) nd rfl (Or.inl rfl) (pe_op op_add (pe_op op_fdivW (pe_op op_sub (pv 2) (pv 3)) (pv 1)) pe_int))
      (pss_cons (ps_set (i := 5) nd rfl (Or.inl rfl) (pe_op op_sub (pe_op op_add (pe_op op_mulW (pe_op op_add (pv 1) pe_int) (pv 4)) (pv 3)) (pv 2)))
      (pss_cons (ps_set (i := 6) nd rfl (Or.inl rfl) (pe_op op_add (pv 4) (pv 1)))
      (pss_cons (ps_fld (pv 0) (pv 1) rfl)
      (pss_cons (ps_fld (pv 0) (pv 2) rfl)
      (pss_cons (ps_fld (pv 0) (pe_lst (pa_cons (pe_tup (pa_cons (pv 4) (pa_cons (pe_op op_sub (pv 5) pe_int) pa_nil))) pa_nil)) rfl)
      (pss_one (ps_if (pt_cmpR op_lt (pv 5) (pv 6) (nomark _))
        (pss_one (ps_expr (pe_bm PySem.F.plainAttrs_list PySem.F.slot_list_append PySem.F.type_list_append mt_append (pe_fld (pv 0) rfl) (pa_cons (pe_tup (pa_cons (pe_op op_add (pv 5) pe_int) (pa_cons (pv 6) pa_nil))) pa_nil)))) pss_nil)))))))), ?_⟩
    have one1 : Bd 400 1 := Nat.one_lt_two_pow (by decide)
    have b1' : Bd 401 (b.1 + 1) := b1.add one1
    have hs : Bd 801 (b.1 * (b.1 + 1) / 2) := (bd_tri b1).mono (by decide)
    have hq : Bd 802 ((b.2 - b.1 * (b.1 + 1) / 2) / b.1) := Bd.le (i := (b.2 - b.1 * (b.1 + 1) / 2) / b.1) (j := b.2 - b.1 * (b.1 + 1) / 2) (by
      unfold Bd at *
      rw [show 802 = 801 + 1 from rfl, Nat.pow_succ]
      have : 2 ^ 800 ≤ 2 ^ 801 := Nat.pow_le_pow_right (by decide) (by decide)
      omega) (Int.natAbs_ediv_le_natAbs _ _)
    have hf : Bd 803 (bFirst b) := hq.add (one1.mono (by decide))
    refine z_set (v := .int (b.1 * (b.1 + 1) / 2)) (v_op (v_op (val_var rfl) (v_op0 (val_var rfl) val_c) (b1.mulw b1' (by decide) (by decide) (by decide))) val_c ⟨by decide, by decide⟩) ?_
    refine z_set (v := .int (bFirst b)) (v_op0 (v_op (v_op0 (val_var rfl) (val_var rfl)) (val_var rfl) (Bd.divw hb b1 (by decide) (by decide))) val_c) ?_
    refine z_set (v := .int (bGap b)) (v_op0 (v_op0 (v_op (v_op0 (val_var rfl) val_c) (val_var rfl) (b1'.mulw hf (by decide) (by decide) (by decide))) (val_var rfl)) (val_var rfl)) ?_
    refine z_set (v := .int (bLast b)) (v_op0 (val_var rfl) (val_var rfl)) ?_
    refine st_seq (st_fld (val_var rfl) (val_var rfl) hp T.cl T.n1 (by show 0 < 1000; decide) ?_)
    refine st_seq (st_fld (val_var rfl) (val_var rfl) upd_same T.cl T.n2 (by show 1 < 1000; decide) ?_)
    rw [upd_upd]
    -- self.parts = [(first, gap - 1)]
    refine ⟨_, rfl, _, rfl, _, _, rfl, rfl, (by show 2 ≤ sizeLine; decide), fun t nt => ?_⟩
    refine ⟨(by show 1 ≤ sizeLine; decide), fun l nl => ?_⟩
    have npt : p ≠ t := fun z => by rw [z, upd_same] at nt; cases nt
    have ntl : t ≠ l := fun z => by rw [z, upd_same] at nl; cases nl
    have npl : p ≠ l := fun z => by rw [← z, upd_ne npt, upd_same] at nl; cases nl
    have nt0 : H t = none := by rw [upd_ne npt.symm] at nt; exact nt
    have nl0 : H l = none := by rw [upd_ne ntl.symm, upd_ne npl.symm] at nl; exact nl
    refine ⟨_, rfl, p, C, dx, _, rfl, (by rw [upd_ne npl, upd_ne npt]; exact upd_same), T.cl, T.n3, (by show 2 < 1000; decide), ?_⟩
    rw [bf_mk]
    have keep : ∀ c o, H c = some o → c ≠ p → (upd (upd (upd (upd H p (.ins C dx (putF "total" (V.int b.2) (putF "many" (V.int b.1) [])))) t (.tup [.int (bFirst b), .int (bGap b - 1)])) l (.lst [.ref t])) p (.ins C dx (bf b l))) c = some o := fun c o e hc => by
      rw [upd_ne hc, upd_ne (ne_of_none e nl0), upd_ne (ne_of_none e nt0), upd_ne hc]
      exact e
    refine s_ifs (b := decide (bGap b < bLast b)) (a_val (v_lt (val_var rfl) (val_var rfl))) (fun c => ?_) fun c => ?_
    · have c := of_decide_eq_true c
      refine ⟨_, rfl, p, C, dx, _, _, rfl, upd_same, T.cl, T.n3, bf_parts _ _, .inl ⟨rfl, [.ref t], SqL.of (by rw [upd_ne npl.symm]; exact upd_same)⟩, ?_⟩
      refine ⟨_, rfl, _, _, rfl, rfl, _, rfl, (by show 2 ≤ sizeLine; decide), fun u nu => ?_⟩
      have npu : p ≠ u := fun z => by rw [z, upd_same] at nu; cases nu
      have nlu : l ≠ u := fun z => by rw [← z, upd_ne npl.symm, upd_same] at nu; cases nu
      have ntu : t ≠ u := fun z => by rw [← z, upd_ne npt.symm, upd_ne ntl, upd_same] at nu; cases nu
      have nu0 : H u = none := by rw [upd_ne npu.symm, upd_ne nlu.symm, upd_ne ntu.symm, upd_ne npu.symm] at nu; exact nu
      refine ⟨l, [.ref t], .ref u, rfl, rfl, (by rw [upd_ne nlu, upd_ne npl.symm]; exact upd_same), (by show 1 < sizeLine; decide), ?_⟩
      refine k _ l nl0 (fun c o e hc => ?_) ?_ ⟨[.ref t, .ref u], upd_same, ?_⟩
      · rw [upd_ne (ne_of_none e nl0), upd_ne (ne_of_none e nu0)]
        exact keep c o e hc
      · rw [upd_ne npl, upd_ne npu]
        exact upd_same
      · unfold bParts
        rw [if_pos c]
        refine .cons ⟨t, rfl, ?_⟩ (.cons ⟨u, rfl, ?_⟩ .nil)
        · rw [upd_ne ntl, upd_ne ntu, upd_ne npt.symm, upd_ne ntl]
          exact upd_same
        · rw [upd_ne nlu.symm]
          exact upd_same
    · have c := of_decide_eq_false c
      refine k _ l nl0 keep upd_same ⟨[.ref t], (by rw [upd_ne npl.symm]; exact upd_same), ?_⟩
      unfold bParts
      rw [if_neg c]
      refine .cons ⟨t, rfl, ?_⟩ .nil
      rw [upd_ne npt.symm, upd_ne ntl]
      exact upd_same
/-! begin, end -/
theorem bParts_ne (b : P2) : ∃ q r, bParts b = q :: r ∧ q.1 = bFirst b := by
  unfold bParts
  split <;> exact ⟨_, _, rfl, rfl⟩
theorem bParts_last (b : P2) : ∃ q r, bParts b = r ++ [q] ∧ q.2 = bEnd b := by
  unfold bParts bEnd
  split
  · exact ⟨_, [_], rfl, rfl⟩
  · exact ⟨_, [], rfl, rfl⟩
def spBegin (C : Addr) : Sp := fun vs H Q _ => ∃ (v : V) (N : Addr → Prop) (b : P2), vs = [v] ∧ Bl C H N v b ∧ Q (.int (bFirst b)) H
def spEnd (C : Addr) : Sp := fun vs H Q _ => ∃ (v : V) (N : Addr → Prop) (b : P2), vs = [v] ∧ Bl C H N v b ∧ Q (.int (bEnd b)) H
theorem scBegin : FnScope ["self"] ["self"] (defScope sBegin) := ⟨rfl, rfl, rfl, by decide +kernel, rfl, by decide +kernel, by decide +kernel⟩
theorem scEnd : FnScope ["self"] ["self"] (defScope sEnd) := ⟨rfl, rfl, rfl, by decide +kernel, rfl, by decide +kernel, by decide +kernel⟩
theorem okBegin {f C : Addr} {fd : FuncData} (F : Fun K "begin" "Block.begin" sBegin f fd) (T : BTxt K mg C) : FnOk P w K mg base CX0 1 f fd ["self"] (spBegin C) := by
  refine F.ok scBegin (fun vs H Q E h => ?_) (fun cdv A outer s H vs Q E hr h => ?_)
  · obtain ⟨v, ll, b, rfl, _⟩ := h
    rfl
  · obtain ⟨v, ll, b, rfl, ⟨p, dx, l, rfl, _, hp, ts, hl, ht⟩, k⟩ := h
    refine ⟨_, pss_one (ps_ret (pe_ix ix_tup (pe_ix ix_list (pe_fld (pv 0) rfl) pe_int (fun _ _ => rfl)) pe_int (fun _ _ => rfl))), ?_⟩
    obtain ⟨q, r, e1, e2⟩ := bParts_ne b
    rw [e1] at ht
    cases ht with
    | cons r1 _ =>
      obtain ⟨t, rfl, ht⟩ := r1
      refine z_ret (v_tup (a := t) (v_lst (a := l) (val_fld (val_var rfl) hp T.cl T.n3 (bf_parts _ _)) val_c hl (atI_nat (j := 0) rfl)) val_c ht (atI_nat (j := 0) rfl)) ?_
      show Q (.int q.1) H
      rw [e2]
      exact k
theorem okEnd {f C : Addr} {fd : FuncData} (F : Fun K "end" "Block.end" sEnd f fd) (T : BTxt K mg C) : FnOk P w K mg base CX0 1 f fd ["self"] (spEnd C) := by
  refine F.ok scEnd (fun vs H Q E h => ?_) (fun cdv A outer s H vs Q E hr h => ?_)
  · obtain ⟨v, ll, b, rfl, _⟩ := h
    rfl
  · obtain ⟨v, ll, b, rfl, ⟨p, dx, l, rfl, _, hp, ts, hl, ht⟩, k⟩ := h
    refine ⟨_, pss_one (ps_ret (pe_ix ix_tup (pe_ix ix_list (pe_fld (pv 0) rfl) (pe_un un_neg pe_int) (fun _ _ => rfl)) pe_int (fun _ _ => rfl))), ?_⟩
    obtain ⟨q, r, e1, e2⟩ := bParts_last b
    have h2 : ∃ t, atI ts (-1) = some (.ref t) ∧ H t = some (II q) := by
      rw [e1] at ht
      obtain ⟨x, hx, t, rfl, h3⟩ := pr_get2 (i := r.length) (y := q) ht (by simp)
      have hlen := pr_len ht
      rw [List.length_append, List.length_singleton] at hlen
      have e3 : ts = ts.dropLast ++ [.ref t] := by
        have hne : ts ≠ [] := fun z => by rw [z] at hx; simp at hx
        have := List.dropLast_concat_getLast hne
        rw [← this]
        congr 1
        · simp
        · rw [List.getLast_eq_getElem]
          have h4 : ts[ts.length - 1]? = some (V.ref t) := by rw [hlen, Nat.add_sub_cancel]; exact hx
          obtain ⟨h5, h6⟩ := List.getElem?_eq_some_iff.mp h4
          rw [h6]
      refine ⟨t, ?_, h3⟩
      rw [e3]
      exact atI_last _ _
    obtain ⟨t, h4, h5⟩ := h2
    refine z_ret (v_tup (a := t) (v_lst (a := l) (val_fld (val_var rfl) hp T.cl T.n3 (bf_parts _ _)) (v_neg val_c) hl h4) val_c h5 (atI_nat (j := 1) rfl)) ?_
    show Q (.int q.2) H
    rw [e2]
    exact k
theorem ne_nn {H : Hp} {l q : Addr} {o : HO} (h : H l = some o) (z : H q = none) : q ≠ l := fun e => by
  rw [e, h] at z
  cases z
theorem made_block {C x dx : Addr} {b : P2} {H1 : Hp} {N : Addr → Prop} {R : Hp → Prop} (hN : ∀ q, H1 q = none → N q) (nx : H1 x = none) (nd : H1 dx = none) (h0 : 0 < b.1) (h1 : Bd 400 b.1) (h2 : Bd 800 b.2) (E : XK)
    (k : ∀ H2, Ex H1 H2 → Bl C H2 N (.ref x) b → R H2) : spBlockInit C [.ref x, .int b.1, .int b.2] (upd (upd H1 dx (.own x)) x (.ins C dx [])) (fun v H2 => v = .non ∧ R H2) E := by
  refine ⟨x, dx, b, rfl, upd_same, h0, h1, h2, fun H' l nl kp hx hp => ⟨rfl, ?_⟩⟩
  have e : Ex H1 H' := Same.made nx nd kp
  refine k H' e ⟨x, dx, l, rfl, hN l ?_, hx, hp⟩
  have s : Ex H1 (upd (upd H1 dx (.own x)) x (.ins C dx [])) := fun b o e => by
    rw [upd_ne (ne_of_none e nx), upd_ne (ne_of_none e nd)]
    exact e
  exact Evl.fresh_back s nl
theorem Bl.ins {C : Addr} {H : Hp} {N : Addr → Prop} {v : V} {b : P2} (h : Bl C H N v b) : ∃ p dx l, v = .ref p ∧ H p = some (.ins C dx (bf b l)) := by
  obtain ⟨p, dx, l, e1, _, e3, _⟩ := h
  exact ⟨p, dx, l, e1, e3⟩
def spRestBlocks (C : Addr) : Sp := fun vs H Q _ => ∃ (a : Addr) (ps : List P2), vs = [.ref a] ∧ PL H a ps ∧ Sz ps ∧ ∀ H' l vs', Ex H H' → H l = none → H' l = some (.lst vs') → Paired (Bl C H' fun q => q ≠ l ∧ H q = none) vs' (stack ps).reverse → Q (.ref l) H'
theorem scRestBlocks : FnScope ["heaps", "blocks", "place", "count", "block", "before"] ["heaps"] (defScope sRestBlocks) := ⟨rfl, rfl, rfl, by decide +kernel, rfl, by decide +kernel, by decide +kernel⟩
/-- what the loop keeps -/
structure RB (C : Addr) (H H' : Hp) (l pl : Addr) (ys vs' : List V) (ps st : List P2) : Prop where
  ex : Ex H H'
  hl : H' l = some (.lst vs')
  hp : H' pl = some (.lst ys)
  ne : pl ≠ l
  tp : Tps H' ys (sortP ps)
  bl : Paired (Bl C H' fun q => q ≠ l ∧ H q = none) vs' st.reverse
theorem RB.mono {C : Addr} {H H' H2 : Hp} {l pl : Addr} {ys vs' : List V} {ps st : List P2} (r : RB C H H' l pl ys vs' ps st) (e : Ex H' H2) : RB C H H2 l pl ys vs' ps st :=
  ⟨r.ex.trans e, e _ _ r.hl, e _ _ r.hp, r.ne, r.tp.mono e, pr_imp r.bl fun _ _ => Bl.mono e⟩
theorem RB.upd {C : Addr} {H H' : Hp} {l pl : Addr} {ys vs' vs2 : List V} {ps st st2 : List P2} (r : RB C H H' l pl ys vs' ps st) (h0 : H l = none) (h : Paired (Bl C H' fun q => q ≠ l ∧ H q = none) vs2 st2.reverse) : RB C H (upd H' l (.lst vs2)) l pl ys vs2 ps st2 :=
  ⟨Evl.Ex.mut r.ex h0, upd_same, by rw [upd_ne r.ne]; exact r.hp, r.ne, r.tp.upd r.hl, pr_imp h fun _ _ => Bl.upd r.hl fun _ z => z.1⟩
theorem okRestBlocks {f C fI fB fE : Addr} {fd fdI fdB fdE : FuncData} (F : Fun K "rest_blocks" "rest_blocks" sRestBlocks f fd) (T : BTxt K mg C) (MI : Mr P w K mg base "Block" C 1 ["self", "many", "total"] (spBlockInit C) fI fdI)
    (MB : Md P w K mg base C "begin" 1 ["self"] (spBegin C) fB fdB) (ME : Md P w K mg base C "end" 1 ["self"] (spEnd C) fE fdE) (m1 : mg "sorted" = none) : FnOk P w K mg base CX0 3 f fd ["heaps"] (spRestBlocks C) := by
  refine F.ok scRestBlocks (fun vs H Q E h => ?_) (fun cdv A outer s H vs Q E hr h => ?_)
  · obtain ⟨a, ps, rfl, _⟩ := h
    rfl
  · obtain ⟨a, ps, rfl, ha, sz, k⟩ := h
    have nd := scRestBlocks.nd
    have hr1 : Room 1 _ := hr.mono (by decide)
    refine ⟨_, pss_cons (ps_set (i := 1) nd rfl (Or.inl rfl) (pe_lst pa_nil))
      (pss_cons (ps_for PassesOwn.never rfl (pi_list (pe_callB cr_sortedPO (by rfl) m1 (by decide +kernel) (pa_cons (pv 0) pa_nil)))
          (pg_tup (by rfl) (pgs_cons (pg_name (i := 2) nd rfl (Or.inl rfl)) (pgs_cons (pg_name (i := 3) nd rfl (Or.inl rfl)) pgs_nil)))
        (pss_one (ps_if (pt_cmpR op_gt (pv 3) pe_int (nomark _))
          (pss_cons (ps_set (i := 4) nd rfl (Or.inl rfl) (pe_make MI.m MI.F hr (by rfl) T.g MI.b .nil pass0 (pa_cons (pv 3) (pa_cons (pe_op op_mulW (pv 3) (pv 2)) pa_nil))))
          (pss_cons (ps_while PassesOwn.never (pw_and (pt_truth (pv 1) (fun _ => rfl)) (pw_and1 (pt_cmpR op_ge (pe_meth0 (pe_ix ix_list (pv 1) (pe_un un_neg pe_int) (fun _ _ => rfl)) T.cl ME.m ME.F hr1 ME.b .nil pass0) (pe_meth0 (pv 4) T.cl MB.m MB.F hr1 MB.b .nil pass0) (nomark _)))).pt
            (pss_cons (ps_set (i := 5) nd rfl (Or.inl rfl) (pe_bm0 PySem.F.plainAttrs_list PySem.F.slot_list_pop PySem.F.type_list_pop mt_pop (pv 1)))
            (pss_one (ps_set (i := 4) nd rfl (Or.inl rfl) (pe_make MI.m MI.F hr (by rfl) T.g MI.b .nil pass0 (pa_cons (pe_op op_add (pe_fld (pv 5) rfl) (pe_fld (pv 4) rfl)) (pa_cons (pe_op op_add (pe_fld (pv 5) rfl) (pe_fld (pv 4) rfl)) pa_nil)))))))
          (pss_one (ps_expr (pe_bm PySem.F.plainAttrs_list PySem.F.slot_list_append PySem.F.type_list_append mt_append (pv 1) (pa_cons (pv 4) pa_nil)))))) pss_nil)))
      (pss_one (ps_ret (pv 1)))), ?_⟩
    -- blocks = []
    refine ⟨Nat.zero_le _, fun l nl => ?_⟩
    have e0 : Ex H (upd H l (.lst [])) := Evl.Ex.new nl
    -- sorted(heaps)
    obtain ⟨us, hus, tus⟩ := ha.mono e0
    refine ⟨_, rfl, a, us, kOf _, rfl, SqL.of hus, (fun x hx => by
      obtain ⟨p, hp⟩ := tps_mem tus x hx
      rw [kOf_tp hp]
      exact hp), fun ys pl s1 s2 np => ?_⟩
    have ht := sorted_tps tus s1 s2
    have nep : pl ≠ l := fun z => by rw [z, upd_same] at np; cases np
    have okS : Ok (sortP ps) := sz.ok.perm (sortP_perm ps)
    have nn1 : ∀ b ∈ sortP ps, 0 ≤ b.2 := okS
    have nn2 : ∀ b ∈ sortP ps, 0 ≤ ((b.2 * b.1).natAbs : Int) := fun _ _ => Int.natCast_nonneg _
    have c1 : Bd 400 (sm (·.2) (sortP ps)) := by rw [sm_perm _ (sortP_perm ps)]; exact sz.cnt
    have c2 : Bd 800 (sm (fun h => ((h.2 * h.1).natAbs : Int)) (sortP ps)) := by rw [sm_perm _ (sortP_perm ps)]; exact sz.tot
    refine ⟨pl, rfl, ⟨_, SqL.of upd_same⟩, for_list (K := K) (a := pl) (xs := ys) (fun i σ H' => ∃ vs' o2 o3 o4 o5, σ = [some (.ref a), some (.ref l), o2, o3, o4, o5] ∧ RB C H H' l pl ys vs' ps (((sortP ps).take i).foldl pushH []) ∧
        Sm (sm (·.2) ((sortP ps).take i)) (sm (fun h => ((h.2 * h.1).natAbs : Int)) ((sortP ps).take i)) (((sortP ps).take i).foldl pushH []) ∧ vs'.length ≤ i)
      ⟨[], none, none, none, none, rfl, ⟨e0.trans (Evl.Ex.new np), by rw [upd_ne nep.symm]; exact upd_same, upd_same, nep, ht.mono (Evl.Ex.new np), .nil⟩, ⟨(fun _ h => nomatch h), Int.le_refl _, Int.le_refl _⟩, Nat.zero_le _⟩ (fun i σ H' _ ⟨_, _, _, _, _, _, r, _⟩ => SqL.of r.hp) ?_ ?_⟩
    · rintro i y σ H' hi ⟨vs', o2, o3, o4, o5, rfl, r, sm0, hlen⟩
      obtain ⟨h, hh, th⟩ := pr_get r.tp hi
      refine g_pair th ?_
      have hm : h ∈ sortP ps := List.mem_of_getElem? hh
      have le1 := sm_take_le (F := (·.2)) (i + 1) nn1
      have le2 := sm_take_le (F := fun h => ((h.2 * h.1).natAbs : Int)) (i + 1) nn2
      have hy : i < (sortP ps).length := (List.getElem?_eq_some_iff.mp hh).1
      rw [(sortP_perm ps).length_eq] at hy
      have hsz := sz.len
      rw [sm_take hh] at le1 le2
      rw [fold_take hh, sm_take hh, sm_take hh]
      generalize hst : ((sortP ps).take i).foldl pushH [] = st0 at *
      generalize hN : sm (·.2) ((sortP ps).take i) = N0 at *
      generalize hM : sm (fun h => ((h.2 * h.1).natAbs : Int)) ((sortP ps).take i) = M0 at *
      have hN0 : 0 ≤ N0 := by rw [← hN]; exact sm_nonneg fun b hb => nn1 b (List.mem_of_mem_take hb)
      have hM0 : 0 ≤ M0 := by rw [← hM]; exact sm_nonneg fun b hb => nn2 b (List.mem_of_mem_take hb)
      -- what is small enough
      have small : ∀ b : P2, 0 < b.1 → b.1 ≤ N0 + h.2 → (b.2.natAbs : Int) ≤ M0 + ((h.2 * h.1).natAbs : Int) → Bd 400 b.1 ∧ Bd 800 b.2 := fun b p1 p2 p3 => ⟨c1.le (by omega), c2.le (by omega)⟩
      refine s_ifs (b := decide (0 < h.2)) (a_val (v_gt (val_var rfl) val_c)) (fun c => ?_) fun c => ?_
      · have c := of_decide_eq_true c
        have sm1 : Sm (N0 + h.2) (M0 + ((h.2 * h.1).natAbs : Int)) ((h.2, h.2 * h.1) :: st0) := by
          obtain ⟨q1, q2, q3⟩ := sm0
          refine ⟨fun b hb => ?_, ?_, ?_⟩
          · rcases List.mem_cons.mp hb with rfl | hb
            · exact c
            · exact q1 b hb
          · rw [sm_cons]; show h.2 + _ ≤ _; omega
          · rw [sm_cons]; show ((h.2 * h.1).natAbs : Int) + _ ≤ _; omega
        obtain ⟨z1, z2, z3⟩ := sm1.mem List.mem_cons_self
        obtain ⟨s1, s2⟩ := small (h.2, h.2 * h.1) z1 z2 z3
        have sp : Bd 800 h.1 := s2.le (by
          show h.1.natAbs ≤ (h.2 * h.1).natAbs
          rw [Int.natAbs_mul]
          exact Nat.le_mul_of_pos_left _ (by omega))
        -- block = Block(count, count * place)
        refine ⟨_, rfl, _, rfl, _, rfl, _, _, rfl, rfl, s1.mulw sp (by decide) (by decide) (by decide), fun x dx nx ndx nex => ?_⟩
        refine made_block (N := fun q => q ≠ l ∧ H q = none) (b := (h.2, h.2 * h.1)) (fun q z => ⟨ne_nn r.hl z, Sp.Ex.free r.ex z⟩) nx ndx c s1 s2 _ fun H2 e2 bl2 => ?_
        -- while
        refine ⟨fun m σ H3 => ∃ st b x vs2 o5, m = st.length ∧ σ = [some (.ref a), some (.ref l), some (.int h.1), some (.int h.2), some (.ref x), o5] ∧ vs2.length ≤ i ∧ push st b = push st0 (h.2, h.2 * h.1) ∧ RB C H H3 l pl ys vs2 ps st ∧ Bl C H3 (fun q => q ≠ l ∧ H q = none) (.ref x) b ∧ Sm (N0 + h.2) (M0 + ((h.2 * h.1).natAbs : Int)) (b :: st),
          ⟨_, st0, _, x, vs', o5, rfl, rfl, hlen, rfl, r.mono e2, bl2, sm1⟩, ?_⟩
        rintro m σ H3 ⟨st, b, x, vs2, o5, rfl, rfl, hl2, hp2, r3, b3, s3⟩
        -- behind the while: blocks.append(block)
        have fin : push st b = b :: st → ∃ vs3 o2 o3 o4 o5', [some (.ref a), some (.ref l), some (.int h.1), some (.int h.2), some (V.ref x), o5] = [some (.ref a), some (.ref l), o2, o3, o4, o5'] ∧ RB C H (upd H3 l (.lst (vs2 ++ [.ref x]))) l pl ys vs3 ps (pushH st0 h) ∧ Sm (N0 + h.2) (M0 + ((h.2 * h.1).natAbs : Int)) (pushH st0 h) ∧ vs3.length ≤ i + 1 := by
          intro hp3
          have e : pushH st0 h = b :: st := by unfold pushH; rw [if_pos c, ← hp2, hp3]
          rw [e]
          refine ⟨vs2 ++ [.ref x], _, _, _, _, rfl, r3.upd nl ?_, s3, ?_⟩
          · rw [List.reverse_cons]
            exact pr_app r3.bl (.cons b3 .nil)
          · rw [List.length_append, List.length_singleton]
            omega
        have hsz2 : vs2.length < sizeLine := Nat.lt_of_le_of_lt (show vs2.length ≤ 10000 by omega) (by decide)
        cases st with
        | nil =>
          have ev : vs2 = [] := by
            have := r3.bl
            generalize vs2 = z at this
            cases this
            rfl
          subst ev
          refine (a_and (a := false) (b := false) (fun Q q => ⟨_, rfl, _, .inl ⟨_, SqL.of r3.hl, rfl⟩, q⟩) (fun z => nomatch z)) _ ?_
          exact ⟨_, rfl, .inl ⟨rfl, _, SqL.of r3.hl⟩, _, rfl, l, _, _, rfl, rfl, r3.hl, hsz2, fin rfl⟩
        | cons t0 st =>
          have r4 := r3.bl
          rw [List.reverse_cons] at r4
          obtain ⟨us3, va, rfl, ru, bva⟩ := pr_last r4
          obtain ⟨pa, da, la, rfl, ha3⟩ := bva.ins
          obtain ⟨pb, db, lb, eb, hb3⟩ := b3.ins
          cases eb
          have test : Ans (tAnd (fun σ H Q => tVar 1 σ H fun x H' => ∃ k, TruV K x H' k ∧ Q k H') (tTest (tOp (rI0 fun i j => V.bl (decide (j ≤ i)))
              (tMeth C "end" (spEnd C) [] E0 (tOp (rIxL K) (tVar 1) (tUn (rU fun i => V.int (-i)) (tC (V.int 1)))) tNil) (tMeth C "begin" (spBegin C) [] E0 (tVar 4) tNil))))
              [some (.ref a), some (.ref l), some (.int h.1), some (.int h.2), some (.ref x), o5] H3 (true && decide (bFirst b ≤ bEnd t0)) := by
            refine a_and (fun Q q => ⟨_, rfl, _, .inl ⟨_, SqL.of r3.hl, by simp⟩, q⟩) fun _ => ?_
            refine a_val (v_ge ?_ ?_)
            · exact fun Q q => (v_lst (val_var rfl) (v_neg val_c) r3.hl (atI_last _ _)) _ ⟨pa, da, _, rfl, ha3, bf_no _ _ (by decide +kernel) (by decide +kernel) (by decide +kernel), _, _, t0, rfl, bva, q⟩
            · exact fun Q q => ⟨_, rfl, x, db, _, rfl, hb3, bf_no _ _ (by decide +kernel) (by decide +kernel) (by decide +kernel), _, _, b, rfl, b3, q⟩
          refine test _ ?_
          by_cases hm : bFirst b ≤ bEnd t0
          · rw [decide_eq_true hm]
            -- before = blocks.pop()
            refine ⟨fun σ H4 => ∃ b x vs2 o5, σ = [some (.ref a), some (.ref l), some (.int h.1), some (.int h.2), some (.ref x), o5] ∧ vs2.length ≤ i ∧ push st b = push st0 (h.2, h.2 * h.1) ∧ RB C H H4 l pl ys vs2 ps st ∧ Bl C H4 (fun q => q ≠ l ∧ H q = none) (.ref x) b ∧ Sm (N0 + h.2) (M0 + ((h.2 * h.1).natAbs : Int)) (b :: st),
              fun σ' H' ⟨b, x, vs2, o5, z⟩ => ⟨st.length, Nat.lt_succ_self _, st, b, x, vs2, o5, rfl, z⟩, ?_⟩
            refine ⟨_, rfl, .inl ⟨rfl, _, SqL.of r3.hl⟩, l, _, _, rfl, rfl, r3.hl, last_at _ _, ?_⟩
            rw [List.dropLast_concat]
            have r5 : RB C H (upd H3 l (.lst us3)) l pl ys us3 ps st := r3.upd nl ru
            have ba5 := Bl.upd (ys := us3) r3.hl (fun _ z => z.1) bva
            have bb5 := Bl.upd (ys := us3) r3.hl (fun _ z => z.1) b3
            have ha5 : (upd H3 l (.lst us3)) pa = some (.ins C da (bf t0 la)) := by rw [upd_ne (ne_of ha3 r3.hl (by intro z; cases z))]; exact ha3
            have hb5 : (upd H3 l (.lst us3)) x = some (.ins C db (bf b lb)) := by rw [upd_ne (ne_of hb3 r3.hl (by intro z; cases z))]; exact hb3
            refine ⟨_, rfl, pa, C, da, _, _, rfl, ha5, T.cl, T.n1, bf_many _ _, _, rfl, x, C, db, _, _, rfl, hb5, T.cl, T.n1, bf_many _ _, _, _, rfl, rfl,
              _, rfl, pa, C, da, _, _, rfl, ha5, T.cl, T.n2, bf_total _ _, _, rfl, x, C, db, _, _, rfl, hb5, T.cl, T.n2, bf_total _ _, _, _, rfl, rfl, fun x2 dx2 nx2 ndx2 nex2 => ?_⟩
            have s5 := s3.bAdd
            obtain ⟨z1, z2, z3⟩ := s5.mem List.mem_cons_self
            obtain ⟨y1, y2⟩ := small (bAdd t0 b) z1 z2 z3
            refine made_block (N := fun q => q ≠ l ∧ H q = none) (b := bAdd t0 b) (fun q z => ⟨ne_nn r5.hl z, Sp.Ex.free r5.ex z⟩) nx2 ndx2 z1 y1 y2 _ fun H5 e5 bl5 => ?_
            refine ⟨bAdd t0 b, x2, us3, _, rfl, ?_, ?_, r5.mono e5, bl5, s5⟩
            · rw [List.length_append, List.length_singleton] at hl2
              omega
            · rw [← hp2]
              show _ = push (t0 :: st) b
              rw [push, if_pos hm]
          · rw [decide_eq_false hm]
            exact ⟨_, rfl, .inl ⟨rfl, _, SqL.of r3.hl⟩, _, rfl, l, _, _, rfl, rfl, r3.hl, hsz2, fin (by unfold push; rw [if_neg hm])⟩
      · have c := of_decide_eq_false c
        have h2 : 0 ≤ h.2 := nn1 h hm
        have e : pushH st0 h = st0 := by unfold pushH; rw [if_neg c]
        rw [e]
        refine ⟨vs', _, _, _, _, rfl, r, ⟨sm0.pos, ?_, ?_⟩, by omega⟩
        · have := sm0.cnt; omega
        · have := sm0.tot; omega
    · rintro σ H' ⟨vs', o2, o3, o4, o5, rfl, r, sm0, hlen⟩
      have el : ys.length = (sortP ps).length := pr_len r.tp
      rw [el, List.take_length] at r
      exact ⟨_, rfl, k H' l vs' r.ex nl r.hl r.bl⟩
theorem stack_len (ps : List P2) : (stack ps).length ≤ ps.length := by
  have h : ∀ (l st : List P2), (l.foldl pushH st).length ≤ st.length + l.length := by
    intro l
    induction l with
    | nil => intro st; exact Nat.le_refl _
    | cons x r ih =>
      intro st
      have h1 : (pushH st x).length ≤ st.length + 1 := by
        unfold pushH
        split
        · have h2 : ∀ (st : List P2) (b : P2), (push st b).length ≤ st.length + 1 := by
            intro st
            induction st with
            | nil => intro b; exact Nat.le_refl _
            | cons a r ih =>
              intro b
              unfold push
              split
              · exact Nat.le_trans (ih _) (Nat.le_succ _)
              · exact Nat.le_refl _
          exact h2 _ _
        · exact Nat.le_succ _
      have := ih (pushH st x)
      rw [List.foldl_cons, List.length_cons]
      omega
  have := h (sortP ps) []
  rw [(sortP_perm ps).length_eq] at this
  have e : (stack ps).length ≤ ([] : List P2).length + ps.length := this
  rw [List.length_nil, Nat.zero_add] at e
  exact e
theorem join1_len (J : List P2) (p : P2) : (join1 J p).length ≤ J.length + 1 := by
  unfold join1
  split
  · exact Nat.le_refl _
  · split
    · exact Nat.le_succ _
    · exact Nat.le_refl _
theorem bParts_len (b : P2) : (bParts b).length ≤ 2 := by
  unfold bParts
  split
  · exact Nat.le_refl _
  · exact Nat.le_succ _
def spRest : Sp := fun vs H Q _ => ∃ (a : Addr) (ps : List P2), vs = [.ref a] ∧ PL H a ps ∧ Sz ps ∧ ∀ H' l vs', Ex H H' → H l = none → H' l = some (.lst vs') → Tps H' vs' (stretches ps) → Q (.ref l) H'
theorem scRest : FnScope ["heaps", "joined", "block", "first", "last"] ["heaps"] (defScope sRestStretches) := ⟨rfl, rfl, rfl, by decide +kernel, rfl, by decide +kernel, by decide +kernel⟩
/-- the list of joined, the blocks -/
structure RJ (C : Addr) (H H' : Hp) (j bl : Addr) (us bvs : List V) (bs J : List P2) : Prop where
  ex : Ex H H'
  hj : H' j = some (.lst us)
  hb : H' bl = some (.lst bvs)
  ne : bl ≠ j
  tp : Tps H' us J.reverse
  bl : Paired (Bl C H' fun q => q ≠ j) bvs bs
theorem RJ.mono {C : Addr} {H H' H2 : Hp} {j bl : Addr} {us bvs : List V} {bs J : List P2} (r : RJ C H H' j bl us bvs bs J) (e : Ex H' H2) : RJ C H H2 j bl us bvs bs J :=
  ⟨r.ex.trans e, e _ _ r.hj, e _ _ r.hb, r.ne, r.tp.mono e, pr_imp r.bl fun _ _ => Bl.mono e⟩
theorem RJ.upd {C : Addr} {H H' : Hp} {j bl : Addr} {us us2 bvs : List V} {bs J J2 : List P2} (r : RJ C H H' j bl us bvs bs J) (h0 : H j = none) (h : Tps H' us2 J2.reverse) : RJ C H (upd H' j (.lst us2)) j bl us2 bvs bs J2 :=
  ⟨Evl.Ex.mut r.ex h0, upd_same, by rw [upd_ne r.ne]; exact r.hb, r.ne, h.upd r.hj, pr_imp r.bl fun _ _ => Bl.upd r.hj fun _ z => z⟩
theorem okRest {f C fR : Addr} {fd fdR : FuncData} (F : Fun K "rest_stretches" "rest_stretches" sRestStretches f fd) (T : BTxt K mg C) (CR : Cl P w K mg base "rest_blocks" 3 ["heaps"] (spRestBlocks C) fR fdR) : FnOk P w K mg base CX0 4 f fd ["heaps"] spRest := by
  refine F.ok scRest (fun vs H Q E h => ?_) (fun cdv A outer s H vs Q E hr h => ?_)
  · obtain ⟨a, ps, rfl, _⟩ := h
    rfl
  · obtain ⟨a, ps, rfl, ha, sz, k⟩ := h
    have nd := scRest.nd
    refine ⟨_, pss_cons (ps_set (i := 1) nd rfl (Or.inl rfl) (pe_lst pa_nil))
      (pss_cons (ps_for PassesOwn.never rfl (pi_list (pe_call CR.F hr (by rfl) CR.g CR.kp CR.b .nil pass0 (pa_cons (pv 0) pa_nil))) (pg_name (i := 2) nd rfl (Or.inl rfl))
        (pss_one (ps_for PassesOwn.never rfl (pi_list (pe_fld (pv 2) rfl)) (pg_tup (by rfl) (pgs_cons (pg_name (i := 3) nd rfl (Or.inl rfl)) (pgs_cons (pg_name (i := 4) nd rfl (Or.inl rfl)) pgs_nil)))
          (pss_one (ps_if (pw_and (pt_truth (pv 1) (fun _ => rfl)) (pw_and1 (pt_cmpR op_eq (pe_op op_add (pe_ix ix_tup (pe_ix ix_list (pv 1) (pe_un un_neg pe_int) (fun _ _ => rfl)) pe_int (fun _ _ => rfl)) pe_int) (pv 3) (nomark _)))).pt
            (pss_one (ps_asg (pe_tup (pa_cons (pe_ix ix_tup (pe_ix ix_list (pv 1) (pe_un un_neg pe_int) (fun _ _ => rfl)) pe_int (fun _ _ => rfl)) (pa_cons (pv 4) pa_nil))) (pg_sub (pv 1) (pe_un un_neg pe_int) set_list)))
            (pss_one (ps_expr (pe_bm PySem.F.plainAttrs_list PySem.F.slot_list_append PySem.F.type_list_append mt_append (pv 1) (pa_cons (pe_tup (pa_cons (pv 3) (pa_cons (pv 4) pa_nil))) pa_nil)))))))))
      (pss_one (ps_ret (pv 1)))), ?_⟩
    refine ⟨Nat.zero_le _, fun j nj => ?_⟩
    have e0 : Ex H (upd H j (.lst [])) := Evl.Ex.new nj
    refine ⟨_, rfl, a, ps, rfl, ha.mono e0, sz, fun H1 bl bvs e1 nbl hbl pbl => ?_⟩
    have nbj : bl ≠ j := fun z => by rw [z, upd_same] at nbl; cases nbl
    have hj1 : H1 j = some (.lst []) := e1 _ _ upd_same
    have sl := stack_len ps
    have szl := sz.len
    refine ⟨bl, rfl, ⟨_, SqL.of hbl⟩, for_list (K := K) (a := bl) (xs := bvs) (fun i σ H' => ∃ us o2 o3 o4, σ = [some (.ref a), some (.ref j), o2, o3, o4] ∧ RJ C H H' j bl us bvs (stack ps).reverse (joins (((stack ps).reverse.take i).flatMap bParts)) ∧ us.length ≤ 2 * i)
      ⟨[], none, none, none, rfl, ⟨e0.trans e1, hj1, hbl, nbj, .nil, pr_imp pbl fun _ _ h => by
        obtain ⟨p, dx, l, z1, ⟨_, z2⟩, z3, z4⟩ := h
        exact ⟨p, dx, l, z1, ne_nn upd_same z2, z3, z4⟩⟩, Nat.zero_le _⟩ (fun i σ H' _ ⟨_, _, _, _, _, r, _⟩ => SqL.of r.hb) ?_ ?_⟩
    · rintro i y σ H' hi ⟨us, o2, o3, o4, rfl, r, hlen⟩
      obtain ⟨b, hb, p, dx, l, rfl, nl, hp, ts, hl, ht⟩ := pr_get r.bl hi
      have hib : i < (stack ps).reverse.length := (List.getElem?_eq_some_iff.mp hb).1
      rw [List.length_reverse] at hib
      have e2 : joins (((stack ps).reverse.take (i + 1)).flatMap bParts) = (bParts b).foldl join1 (joins (((stack ps).reverse.take i).flatMap bParts)) := by
        rw [take_snoc hb, List.flatMap_append]
        unfold joins
        rw [List.foldl_append]
        congr 1
        simp
      rw [e2]
      generalize joins (((stack ps).reverse.take i).flatMap bParts) = J0 at *
      refine ⟨_, rfl, p, C, dx, _, _, rfl, hp, T.cl, T.n3, bf_parts _ _, l, rfl, ⟨_, SqL.of hl⟩, for_list (K := K) (a := l) (xs := ts) (fun m σ H2 => ∃ us o3 o4, σ = [some (.ref a), some (.ref j), some (.ref p), o3, o4] ∧ RJ C H H2 j bl us bvs (stack ps).reverse (((bParts b).take m).foldl join1 J0) ∧
          us.length ≤ 2 * i + m ∧ H2 l = some (.lst ts) ∧ Tps H2 ts (bParts b)) ⟨us, o3, o4, rfl, r, by omega, hl, ht⟩ (fun i σ H' _ ⟨_, _, _, _, _, _, h, _⟩ => SqL.of h) ?_ ?_⟩
      · rintro m y σ H2 hm ⟨us, o3, o4, rfl, r, hlen, hl, ht⟩
        obtain ⟨q, hq, tq⟩ := pr_get ht hm
        refine g_pair tq ?_
        have hmb : m < (bParts b).length := (List.getElem?_eq_some_iff.mp hq).1
        have := bParts_len b
        rw [fold_take hq]
        generalize ((bParts b).take m).foldl join1 J0 = J at *
        have hsz2 : us.length < sizeLine := Nat.lt_of_le_of_lt (show us.length ≤ 30000 by omega) (by decide)
        -- joined.append((first, last))
        have app : join1 J q = q :: J → tDrop (tBM K "list" rAppend (tVar 1) (tCons (tTup (tCons (tVar 3) (tCons (tVar 4) tNil))) tNil))
            { nx := fun σ H2 => ∃ us o3 o4, σ = [some (.ref a), some (.ref j), some (.ref p), o3, o4] ∧ RJ C H H2 j bl us bvs (stack ps).reverse (join1 J q) ∧ us.length ≤ 2 * i + (m + 1) ∧ H2 l = some (.lst ts) ∧ Tps H2 ts (bParts b), rt := Q, bk := fun _ _ => True, ct := fun _ _ => True }
            [some (.ref a), some (.ref j), some (.ref p), some (.int q.1), some (.int q.2)] H2 := by
          intro eJ
          rw [eJ]
          refine ⟨_, rfl, .inl ⟨rfl, _, SqL.of r.hj⟩, _, rfl, _, rfl, (by show 2 ≤ sizeLine; decide), fun t nt => ?_⟩
          have r2 := r.mono (Evl.Ex.new (o := II q) nt)
          refine ⟨j, us, .ref t, rfl, rfl, r2.hj, hsz2, us ++ [.ref t], _, _, rfl, r2.upd nj ?_, ?_, ?_, ?_⟩
          · rw [List.reverse_cons]
            exact pr_app r2.tp (.cons ⟨t, rfl, upd_same⟩ .nil)
          · rw [List.length_append, List.length_singleton]; omega
          · rw [upd_ne nl, upd_ne (ne_of_none hl nt)]; exact hl
          · exact (ht.mono (Evl.Ex.new nt)).upd r2.hj
        cases J with
        | nil =>
          have eu : us = [] := by
            have := r.tp
            generalize us = z at this
            cases this
            rfl
          subst eu
          refine s_ifs (b := false) (a_and (a := false) (b := false) (fun Q q => ⟨_, rfl, _, .inl ⟨_, SqL.of r.hj, rfl⟩, q⟩) (fun z => nomatch z)) (fun z => nomatch z) fun _ => ?_
          exact app rfl
        | cons t0 J =>
          have r4 := r.tp
          rw [List.reverse_cons] at r4
          obtain ⟨us3, va, rfl, ru, t, rfl, hta⟩ := pr_last r4
          have last : ∀ i v, atI ([.int t0.1, .int t0.2] : List V) i = some v → Val (tOp (rIxT K) (tOp (rIxL K) (tVar 1) (tUn (rU fun i => V.int (-i)) (tC (V.int 1)))) (tC (.int i))) [some (.ref a), some (.ref j), some (.ref p), some (.int q.1), some (.int q.2)] H2 v := fun i v hi =>
            v_tup (v_lst (val_var rfl) (v_neg val_c) r.hj (atI_last _ _)) val_c hta hi
          refine s_ifs (b := true && decide (V.int (t0.2 + 1) = V.int q.1)) (a_and (fun Q q => ⟨_, rfl, _, .inl ⟨_, SqL.of r.hj, by simp⟩, q⟩) fun _ => a_val (v_eq (v_add (last 1 _ (atI_nat (j := 1) rfl)) val_c) (val_var rfl) rfl)) (fun c => ?_) fun c => ?_
          · have c : t0.2 + 1 = q.1 := V.int.inj (of_decide_eq_true (by simpa using c))
            have eJ : join1 (t0 :: J) q = (t0.1, q.2) :: J := by show (if t0.2 + 1 = q.1 then _ else _) = _; rw [if_pos c]
            rw [eJ]
            refine (last 0 _ (atI_nat (j := 0) rfl)) _ ⟨_, rfl, (by show 2 ≤ sizeLine; decide), fun u nu => ?_⟩
            have r2 := r.mono (Evl.Ex.new (o := II (t0.1, q.2)) nu)
            refine ⟨_, rfl, 1, rfl, j, _, _, us3.length, rfl, rfl, r2.hj, ?_, ?_⟩
            · rw [List.length_append, List.length_singleton]
              unfold ixN
              rw [if_neg (by decide), if_pos (by omega)]
              congr 1
              omega
            · have es : (us3 ++ [V.ref t]).set us3.length (.ref u) = us3 ++ [.ref u] := by
                rw [List.set_append_right _ _ (Nat.le_refl _), Nat.sub_self]
                rfl
              rw [es]
              refine ⟨us3 ++ [.ref u], _, _, rfl, r2.upd nj ?_, ?_, ?_, ?_⟩
              · rw [List.reverse_cons]
                exact pr_app (Tps.mono (Evl.Ex.new nu) ru) (.cons ⟨u, rfl, upd_same⟩ .nil)
              · rw [List.length_append, List.length_singleton] at hlen ⊢; omega
              · rw [upd_ne nl, upd_ne (ne_of_none hl nu)]; exact hl
              · exact (ht.mono (Evl.Ex.new nu)).upd r2.hj
          · have c : ¬ t0.2 + 1 = q.1 := fun z => by rw [z] at c; simp at c
            exact app (by show (if t0.2 + 1 = q.1 then _ else _) = _; rw [if_neg c])
      · rintro σ H2 ⟨us, o3, o4, rfl, r, hlen, hl, ht⟩
        have el : ts.length = (bParts b).length := pr_len ht
        rw [el, List.take_length] at r
        have := bParts_len b
        exact ⟨us, _, _, _, rfl, r, by omega⟩
    · rintro σ H' ⟨us, o2, o3, o4, rfl, r, hlen⟩
      have el : bvs.length = (stack ps).reverse.length := pr_len pbl
      rw [el, List.take_length] at r
      exact ⟨_, rfl, k H' j us r.ex nj r.hj r.tp⟩
end

end Sp

set_option Elab.async false
set_option linter.all false
set_option maxRecDepth 100000
set_option maxHeartbeats 1000000
namespace Sp
open PySem L2 Mth
open Evl (Ex)
section
variable {P : Program} {w : World} {K : PySem.W.Frag} {mg : Str → Option Value} {base : Heap}
/-! Spread -/
def sf (l : Addr) : List (Str × V) := putF "stretches" (.ref l) []
theorem sf_get (l : Addr) : (sf l).lookup ("stretches" : Str) = some (.ref l) := by
  unfold sf
  rw [lookup_putF, if_pos rfl]
theorem sf_no (l : Addr) {m : Str} (h : ¬ m = "stretches") : (sf l).lookup m = none := by
  unfold sf
  rw [lookup_putF, if_neg h]
  rfl
structure STxt (K : PySem.W.Frag) (S : Addr) : Prop where
  cl : Cls K S
  n1 : NoAttr K S "stretches"
/-- what isinstance asks of the class -/
structure SIsi (K : PySem.W.Frag) (S : Addr) : Prop where
  ha : PySem.W.findIn K (.ref S) "__class__" = some (some (.builtin "object.__class__"))
  hn : PySem.W.specialIn K (.builtin "object.__class__") "__get__" = some (some (.builtin "getset_descriptor.__get__"))
  htk : PySem.W.takesIn K (.builtin "object.__class__") = some true
  hm : PySem.W.mroIn K S (.type "object") = some true
  kt : PySem.W.kitOne K (.ref S) (.ref S) = some true
/-- a Spread stands at p, its list at l -/
def Sd (S : Addr) (H : Hp) (p l : Addr) : Prop := ∃ dx, H p = some (.ins S dx (sf l))
theorem Sd.mono {S : Addr} {H H' : Hp} {p l : Addr} (e : Ex H H') (h : Sd S H p l) : Sd S H' p l := by
  obtain ⟨dx, h⟩ := h
  exact ⟨dx, e _ _ h⟩
abbrev nSpreadInit : List Str := ["self", "stretches"]
theorem scSpreadInit : FnScope ["self", "stretches"] ["self", "stretches"] (defScope sSpreadInit) := ⟨rfl, rfl, rfl, by decide +kernel, rfl, by decide +kernel, by decide +kernel⟩
def spSpreadInit (S : Addr) : Sp := fun vs H Q _ => ∃ (p dx a : Addr) (qs : List P2), vs = [.ref p, .ref a] ∧ H p = some (.ins S dx []) ∧ PL H a qs ∧ a ≠ p ∧
  ∀ H' l, H l = none → (∀ c o, H c = some o → c ≠ p → H' c = some o) → H' p = some (.ins S dx (sf l)) → PL H' l qs → Q .non H'
theorem okSpreadInit {f S : Addr} {fd : FuncData} (F : Fun K "__init__" "Spread.__init__" sSpreadInit f fd) (T : STxt K S) (m : Ms mg) : FnOk P w K mg base CX0 1 f fd ["self", "stretches"] (spSpreadInit S) := by
  refine F.ok scSpreadInit (fun vs H Q E h => ?_) (fun cdv A outer s H vs Q E hr h => ?_)
  · obtain ⟨p, dx, a, qs, rfl, _⟩ := h
    rfl
  · obtain ⟨p, dx, a, qs, rfl, hp, ha, ne, k⟩ := h
    have nd := scSpreadInit.nd
    refine ⟨_, (pss_one (ps_fld (pv 0) (pe_callTy call_list_of (by rfl) m.list_ (by decide +kernel) (pa_cons (pv 1) pa_nil)) rfl)), ?_⟩
    refine nl_list (K := K) (Evl.ev_var rfl) ha H (Evl.Ex.refl _) _ fun l H2 nl e2 hl => ?_
    have hp2 := e2 _ _ hp
    have npl : p ≠ l := fun z => by rw [← z, hp] at nl; cases nl
    refine ⟨_, rfl, p, S, dx, [], rfl, hp2, T.cl, T.n1, (by show 0 < 1000; decide), ?_⟩
    refine k _ l nl (fun c o e hc => by rw [upd_ne hc]; exact e2 _ _ e) upd_same ?_
    obtain ⟨vs, h1, h2⟩ := hl
    refine ⟨vs, by rw [upd_ne npl.symm]; exact h1, Paired.mapP h2 fun v q t => ?_⟩
    obtain ⟨t, e1, e2⟩ := t
    exact ⟨t, e1, by rw [upd_ne (ne_of e2 hp2 (by intro z; cases z))]; exact e2⟩
theorem made_spread {S x dx a : Addr} {qs : List P2} {H1 : Hp} {R : Hp → Prop} (nx : H1 x = none) (nd : H1 dx = none) (ha : PL H1 a qs) (E : XK)
    (k : ∀ H2 l, Ex H1 H2 → H1 l = none → Sd S H2 x l → PL H2 l qs → R H2) : spSpreadInit S [.ref x, .ref a] (upd (upd H1 dx (.own x)) x (.ins S dx [])) (fun v H2 => v = .non ∧ R H2) E := by
  have s : Ex H1 (upd (upd H1 dx (.own x)) x (.ins S dx [])) := fun b o e => by
    rw [upd_ne (ne_of_none e nx), upd_ne (ne_of_none e nd)]
    exact e
  refine ⟨x, dx, a, qs, rfl, upd_same, ha.mono s, fun z => ?_, fun H' l nl kp hx hp => ⟨rfl, ?_⟩⟩
  · obtain ⟨vs, h1, _⟩ := ha
    rw [z, nx] at h1
    cases h1
  · exact k H' l (Same.made nx nd kp) (Evl.fresh_back s nl) ⟨dx, hx⟩ hp
abbrev nSpread : List Str := ["heaps"]
theorem scSpread : FnScope ["heaps"] ["heaps"] (defScope sSpread) := ⟨rfl, rfl, rfl, by decide +kernel, rfl, by decide +kernel, by decide +kernel⟩
def spSpread (S : Addr) : Sp := fun vs H Q _ => ∃ (a : Addr) (ps : List P2), vs = [.ref a] ∧ PL H a ps ∧ Sz ps ∧ ∀ H' p l, Ex H H' → H p = none → H l = none → Sd S H' p l → PL H' l (stretches ps) → Q (.ref p) H'
theorem okSpread {f S fR fC fI : Addr} {fd fdR fdC fdI : FuncData} (F : Fun K "spread" "spread" sSpread f fd) (cCheck : Cl P w K mg base "check_heaps" 3 ["heaps"] spCheckHeaps fC fdC) (cRest : Cl P w K mg base "rest_stretches" 4 ["heaps"] spRest fR fdR)
    (rSpread : Mr P w K mg base "Spread" S 1 ["self", "stretches"] (spSpreadInit S) fI fdI) : FnOk P w K mg base CX0 5 f fd ["heaps"] (spSpread S) := by
  refine F.ok scSpread (fun vs H Q E h => ?_) (fun cdv A outer s H vs Q E hr h => ?_)
  · obtain ⟨a, ps, rfl, _⟩ := h
    rfl
  · obtain ⟨a, ps, rfl, ha, sz, k⟩ := h
    refine ⟨_, (pss_cons (ps_expr (pe_call cCheck.F (hr.mono (by decide)) (by rfl) cCheck.g cCheck.kp cCheck.b .nil pass0 (pa_cons (pv 0) pa_nil)))
    (pss_one (ps_ret (pe_make rSpread.m rSpread.F (hr.mono (by decide)) (by rfl) rSpread.g rSpread.b .nil pass0 (pa_cons (pe_call cRest.F (hr.mono (by decide)) (by rfl) cRest.g cRest.kp cRest.b .nil pass0 (pa_cons (pv 0) pa_nil)) pa_nil))))), ?_⟩
    refine ⟨_, rfl, a, ps, rfl, ha, sz.ok, ?_⟩
    refine ⟨_, rfl, a, ps, rfl, ha, sz, fun H' r vs' e nr hr' ht => ?_⟩
    intro x dx nx ndx nex
    refine made_spread nx ndx ⟨vs', hr', ht⟩ _ fun H2 l e2 nl hs hl => ?_
    exact k H2 x l (e.trans e2) (Evl.fresh_back e nx) (Evl.fresh_back e nl) hs hl
open Evl in
theorem e_fldS {σ : L2.St} {H : Hp} {ta : TE} {S p l : Addr} (T : STxt K S) (ha : Ev ta σ H (.ref p)) (h : Sd S H p l) : Ev (tFld K ta "stretches") σ H (.ref l) := fun H1 e Q q =>
  ha H1 e _ fun H2 e2 => by
    obtain ⟨dx, hp⟩ := h.mono (e.trans e2)
    exact ⟨p, S, dx, _, _, rfl, hp, T.cl, T.n1, sf_get _, q H2 e2⟩
open Evl in
theorem sl_spread {σ : L2.St} {H : Hp} {ta : TE} {S : Addr} {qs : List P2} (T : STxt K S) (h : SL ta σ H qs) (sz : Sz qs) : SL (tFld K (tCall (spSpread S) [] E0 (tCons ta tNil)) "stretches") σ H (stretches qs) := fun H1 e Q k =>
  h H1 e _ fun a H2 e2 ha => ⟨a, qs, rfl, ha, sz, fun H3 p l e3 np nl hs hl => by
    obtain ⟨dx, hp⟩ := hs
    exact ⟨p, S, dx, _, _, rfl, hp, T.cl, T.n1, sf_get _, k l H3 (e2.trans e3) hl⟩⟩
end

end Sp

set_option Elab.async false
set_option linter.all false
set_option maxRecDepth 100000
set_option maxHeartbeats 1000000
namespace Sp
open PySem L2 Mth
open Evl (Ex)
section
variable {P : Program} {w : World} {K : PySem.W.Frag} {mg : Str → Option Value} {base : Heap}
/-! check_place, left -/
abbrev nCheckPlace : List Str := ["place"]
theorem scCheckPlace : FnScope ["place"] ["place"] (defScope sCheckPlace) := ⟨rfl, rfl, rfl, by decide +kernel, rfl, by decide +kernel, by decide +kernel⟩
def spPlace : Sp := fun vs H Q _ => ∃ i : Int, vs = [.int i] ∧ Q .non H
theorem okPlace {f fN : Addr} {fd fdN : FuncData} (F : Fun K "check_place" "check_place" sCheckPlace f fd) (cNum : Cl P w K mg base "is_number" 1 ["value"] spIsNumber fN fdN) : FnOk P w K mg base CX0 2 f fd ["place"] spPlace := by
  refine F.ok scCheckPlace (fun vs H Q E h => ?_) (fun cdv A outer s H vs Q E hr h => ?_)
  · obtain ⟨i, rfl, _⟩ := h
    rfl
  · obtain ⟨i, rfl, k⟩ := h
    refine ⟨_, (pss_one (ps_if (pt_not (pt_val (pe_call cNum.F (hr.mono (by decide)) (by rfl) cNum.g cNum.kp cNum.b .nil pass0 (pa_cons (pv 0) pa_nil))))
      (pss_one ps_never)
      pss_nil)), ?_⟩
    exact s_ifs (b := false) (fun Q q => ⟨_, rfl, i, rfl, true, rfl, q⟩) (fun z => nomatch z) fun _ => k
abbrev nLeft : List Str := ["heaps", "place", "first", "last"]
theorem scLeft : FnScope ["heaps", "place", "first", "last"] ["heaps", "place"] (defScope sLeft) := ⟨rfl, rfl, rfl, by decide +kernel, rfl, by decide +kernel, by decide +kernel⟩
def spLeft : Sp := fun vs H Q _ => ∃ (a : Addr) (ps : List P2) (x : Int), vs = [.ref a, .int x] ∧ PL H a ps ∧ Sz ps ∧ ∀ H', Ex H H' → Q (.int (if hasB (stretches ps) x then 1 else 0)) H'
theorem okLeft {f fR fC fP : Addr} {fd fdR fdC fdP : FuncData} (F : Fun K "left" "left" sLeft f fd) (cCheck : Cl P w K mg base "check_heaps" 3 ["heaps"] spCheckHeaps fC fdC) (cPlace : Cl P w K mg base "check_place" 2 ["place"] spPlace fP fdP)
    (cRest : Cl P w K mg base "rest_stretches" 4 ["heaps"] spRest fR fdR) : FnOk P w K mg base CX0 5 f fd ["heaps", "place"] spLeft := by
  refine F.ok scLeft (fun vs H Q E h => ?_) (fun cdv A outer s H vs Q E hr h => ?_)
  · obtain ⟨a, ps, x, rfl, _⟩ := h
    rfl
  · obtain ⟨a, ps, x, rfl, ha, sz, k⟩ := h
    have nd := scLeft.nd
    refine ⟨_, (pss_cons (ps_expr (pe_call cCheck.F (hr.mono (by decide)) (by rfl) cCheck.g cCheck.kp cCheck.b .nil pass0 (pa_cons (pv 0) pa_nil)))
    (pss_cons (ps_expr (pe_call cPlace.F (hr.mono (by decide)) (by rfl) cPlace.g cPlace.kp cPlace.b .nil pass0 (pa_cons (pv 1) pa_nil)))
    (pss_cons (ps_for PassesOwn.never rfl (pi_list (pe_call cRest.F (hr.mono (by decide)) (by rfl) cRest.g cRest.kp cRest.b .nil pass0 (pa_cons (pv 0) pa_nil))) (pg_tup (by rfl) (pgs_cons (pg_name (i := 2) nd rfl (by first | exact Or.inl rfl | exact Or.inr rfl)) (pgs_cons (pg_name (i := 3) nd rfl (by first | exact Or.inl rfl | exact Or.inr rfl)) pgs_nil)))
      (pss_one (ps_if (pt_chain op_le op_le (pv 2) (pv 1) (pv 3))
        (pss_one (ps_ret pe_int))
        pss_nil)))
    (pss_one (ps_ret pe_int))))), ?_⟩
    refine ⟨_, rfl, a, ps, rfl, ha, sz.ok, ?_⟩
    refine ⟨_, rfl, x, rfl, ?_⟩
    refine ⟨_, rfl, a, ps, rfl, ha, sz, fun H1 l vs e1 nl hl ht => ?_⟩
    refine ⟨l, rfl, ⟨_, SqL.of hl⟩, for_list (K := K) (a := l) (xs := vs) (fun i σ H' => ∃ o2 o3, σ = [some (.ref a), some (.int x), o2, o3] ∧ Ex H1 H' ∧ hasB ((stretches ps).take i) x = false)
      ⟨none, none, rfl, Evl.Ex.refl _, rfl⟩ (fun i σ H' _ ⟨_, _, _, e, _⟩ => SqL.of (e _ _ hl)) ?_ ?_⟩
    · rintro i y σ H' hi ⟨o2, o3, rfl, e, hb⟩
      obtain ⟨q, hq, tq⟩ := pr_get (ht.mono e) hi
      refine g_pair tq ?_
      have hb1 : hasB ((stretches ps).take (i + 1)) x = (decide (q.1 ≤ x) && decide (x ≤ q.2)) := by
        rw [take_snoc hq]
        unfold hasB at hb ⊢
        rw [List.any_append, hb, Bool.false_or]
        simp
      refine Evl.s_when (Evl.et_test (e_chain (Evl.ev_var rfl) (Evl.ev_var rfl) (Evl.ev_var rfl))) (fun c H2 e2 => ?_) fun c H2 e2 => ?_
      · have hall : hasB (stretches ps) x = true := by
          unfold hasB
          refine List.any_eq_true.mpr ⟨q, List.mem_of_getElem? hq, c⟩
        have := k H2 ((e1.trans e).trans e2)
        rw [hall] at this
        exact this
      · exact ⟨_, _, rfl, e.trans e2, by rw [hb1, c]⟩
    · rintro σ H' ⟨o2, o3, rfl, e, hb⟩
      have el := pr_len ht
      rw [el, List.take_length] at hb
      have := k H' (e1.trans e)
      rw [hb] at this
      exact this
end

end Sp

set_option Elab.async false
set_option linter.all false
set_option maxRecDepth 100000
set_option maxHeartbeats 1000000
namespace Sp
open PySem L2 Mth
open Evl (Ex)
section
variable {P : Program} {w : World} {K : PySem.W.Frag} {mg : Str → Option Value} {base : Heap}
/-! giving -/
abbrev nWayTo : List Str := ["place", "first", "last", "nearest"]
theorem scWayTo : FnScope ["place", "first", "last", "nearest"] ["place", "first", "last"] (defScope sWayTo) := ⟨rfl, rfl, rfl, by decide +kernel, rfl, by decide +kernel, by decide +kernel⟩
def spWay : Sp := fun vs H Q _ => ∃ p f l : Int, vs = [.int p, .int f, .int l] ∧ Bd 900 p ∧ Bd 900 f ∧ Bd 900 l ∧ ∀ H', Ex H H' → Q (.int (wayTo p f l)) H'
theorem okWay {f : Addr} {fd : FuncData} (F : Fun K "way_to" "way_to" sWayTo f fd) (m : Ms mg) : FnOk P w K mg base CX0 1 f fd ["place", "first", "last"] spWay := by
  refine F.ok scWayTo (fun vs H Q E h => ?_) (fun cdv A outer s H vs Q E hr h => ?_)
  · obtain ⟨p, f, l, rfl, _⟩ := h
    rfl
  · obtain ⟨p, f, l, rfl, b1, b2, b3, k⟩ := h
    have nd := scWayTo.nd
    refine ⟨_, (pss_cons (ps_if (pt_cmpR op_ge (pv 1) (pv 0) (nomark _))
      (pss_one (ps_ret pe_int))
      pss_nil)
    (pss_cons (ps_set (i := 3) nd rfl (by first | exact Or.inl rfl | exact Or.inr rfl) (pe_callB (call_min2 rfl) (by rfl) m.min_ (by decide +kernel) (pa_cons (pv 2) (pa_cons (pe_op op_sub (pv 0) pe_int) pa_nil))))
    (pss_one (ps_ret (pe_op op_fdiv (pe_op op_mulW (pe_op op_sub (pe_op op_add (pe_op op_sub (pv 0) (pv 1)) (pv 0)) (pv 3)) (pe_op op_add (pe_op op_sub (pv 3) (pv 1)) pe_int)) pe_int))))), ?_⟩
    have k := k H (Evl.Ex.refl _)
    unfold wayTo at k
    refine z_if (b := decide (p ≤ f)) (a_val (v_ge (val_var rfl) (val_var rfl))) (fun c => ?_) fun c => ?_
    · rw [if_pos (of_decide_eq_true c)] at k
      exact k
    · rw [if_neg (of_decide_eq_false c)] at k
      refine ⟨_, rfl, _, rfl, _, _, rfl, rfl, _, _, rfl, ?_⟩
      have hn : Bd 901 (if p - 1 < l then p - 1 else l) := by
        unfold Bd at *
        rw [show 901 = 900 + 1 from rfl, Nat.pow_succ]
        have := Nat.two_pow_pos 900
        split <;> omega
      generalize (if p - 1 < l then p - 1 else l) = n at *
      refine z_ret (v := .int ((p - f + p - n) * (n - f + 1) / 2)) (v_div (v_mulW (v_sub (v_add (v_sub (val_var rfl) (val_var rfl)) (val_var rfl)) (val_var rfl)) (v_add (v_sub (val_var rfl) (val_var rfl)) val_c) (Bd.mulw (a := 904) (b := 904) ?_ ?_ (by decide) (by decide) (by decide))) val_c ⟨by decide, by decide⟩) k
      · unfold Bd at *
        rw [show 904 = 900 + 1 + 1 + 1 + 1 from rfl, Nat.pow_succ, Nat.pow_succ, Nat.pow_succ, Nat.pow_succ]
        rw [show 901 = 900 + 1 from rfl, Nat.pow_succ] at hn
        have := Nat.two_pow_pos 900
        omega
      · unfold Bd at *
        rw [show 904 = 900 + 1 + 1 + 1 + 1 from rfl, Nat.pow_succ, Nat.pow_succ, Nat.pow_succ, Nat.pow_succ]
        rw [show 901 = 900 + 1 from rfl, Nat.pow_succ] at hn
        have := Nat.two_pow_pos 900
        omega
abbrev nSquaresTo : List Str := ["last"]
theorem scSquaresTo : FnScope ["last"] ["last"] (defScope sSquaresTo) := ⟨rfl, rfl, rfl, by decide +kernel, rfl, by decide +kernel, by decide +kernel⟩
def spSqt : Sp := fun vs H Q _ => ∃ n : Int, vs = [.int n] ∧ Bd 900 n ∧ ∀ H', Ex H H' → Q (.int (sqTo n)) H'
theorem okSqt {f : Addr} {fd : FuncData} (F : Fun K "squares_to" "squares_to" sSquaresTo f fd) : FnOk P w K mg base CX0 1 f fd ["last"] spSqt := by
  refine F.ok scSquaresTo (fun vs H Q E h => ?_) (fun cdv A outer s H vs Q E hr h => ?_)
  · obtain ⟨n, rfl, _⟩ := h
    rfl
  · obtain ⟨n, rfl, b1, k⟩ := h
    refine ⟨_, (pss_one (ps_ret (pe_op op_fdiv (pe_op op_mulW (pe_op op_mulW (pv 0) (pe_op op_add (pv 0) pe_int)) (pe_op op_add (pe_op op_mul pe_int (pv 0)) pe_int)) pe_int))), ?_⟩
    have one1 : Bd 900 1 := Nat.one_lt_two_pow (by decide)
    have b2 : Bd 901 (n + 1) := b1.add one1
    have b3 : Bd 902 (2 * n + 1) := by
      unfold Bd at *
      rw [show 902 = 900 + 1 + 1 from rfl, Nat.pow_succ, Nat.pow_succ]
      have := Nat.two_pow_pos 900
      omega
    exact z_ret (v := .int (sqTo n)) (v_div (v_mulW (v_mulW (val_var rfl) (v_add (val_var rfl) val_c) (b1.mulw b2 (by decide) (by decide) (by decide))) (v_add (v_mul val_c (val_var rfl) (mulL (by decide))) val_c) ((b1.mul b2).mulw b3 (by decide) (by decide) (by decide))) val_c ⟨by decide, by decide⟩) (k H (Evl.Ex.refl _))
abbrev nSquares : List Str := ["first", "last"]
theorem scSquares : FnScope ["first", "last"] ["first", "last"] (defScope sSquares) := ⟨rfl, rfl, rfl, by decide +kernel, rfl, by decide +kernel, by decide +kernel⟩
def spSqs : Sp := fun vs H Q _ => ∃ f l : Int, vs = [.int f, .int l] ∧ Bd 899 f ∧ Bd 899 l ∧ ∀ H', Ex H H' → Q (.int (sqTo l - sqTo (f - 1))) H'
theorem okSqs {f fT : Addr} {fd fdT : FuncData} (F : Fun K "squares" "squares" sSquares f fd) (cSqt : Cl P w K mg base "squares_to" 1 ["last"] spSqt fT fdT) : FnOk P w K mg base CX0 2 f fd ["first", "last"] spSqs := by
  refine F.ok scSquares (fun vs H Q E h => ?_) (fun cdv A outer s H vs Q E hr h => ?_)
  · obtain ⟨f, l, rfl, _⟩ := h
    rfl
  · obtain ⟨f, l, rfl, b1, b2, k⟩ := h
    refine ⟨_, (pss_one (ps_ret (pe_op op_sub (pe_call cSqt.F (hr.mono (by decide)) (by rfl) cSqt.g cSqt.kp cSqt.b .nil pass0 (pa_cons (pv 1) pa_nil)) (pe_call cSqt.F (hr.mono (by decide)) (by rfl) cSqt.g cSqt.kp cSqt.b .nil pass0 (pa_cons (pe_op op_sub (pv 0) pe_int) pa_nil))))), ?_⟩
    refine ⟨_, rfl, l, rfl, b2.mono (by decide), fun H1 e1 => ?_⟩
    refine ⟨_, rfl, _, _, rfl, rfl, f - 1, rfl, ?_, fun H2 e2 => ?_⟩
    · unfold Bd at *
      rw [show 900 = 899 + 1 from rfl, Nat.pow_succ]
      have := Nat.two_pow_pos 899
      omega
    · exact ⟨_, _, rfl, rfl, k H2 (e1.trans e2)⟩
theorem filt_sum {x : Int} : ∀ ps : List P2, ((ps.filter fun q => decide (q.1 < x)).map fun q => q.2 * (x - q.1)).sum = sm (hp (Ph x)) ps
  | [] => rfl
  | q :: r => by
    rw [sm_cons]
    by_cases c : q.1 < x
    · rw [List.filter_cons_of_pos (by simpa using c), List.map_cons, List.sum_cons, filt_sum r]
      unfold hp Ph ph
      rw [if_pos c]
    · rw [List.filter_cons_of_neg (by simpa using c), filt_sum r]
      unfold hp Ph ph
      rw [if_neg c]
      omega
open Evl in
theorem sl_rest {σ : L2.St} {H : Hp} {ta : TE} {qs : List P2} (h : SL ta σ H qs) (sz : Sz qs) : SL (tCall spRest [] E0 (tCons ta tNil)) σ H (stretches qs) := fun H1 e Q k =>
  h H1 e _ fun a H2 e2 ha => ⟨a, qs, rfl, ha, sz, fun H3 l vs e3 _ hl ht => k l H3 (e2.trans e3) ⟨vs, hl, ht⟩⟩
theorem stretches_len (ps : List P2) : (stretches ps).length ≤ 2 * ps.length := by
  unfold stretches
  rw [List.length_reverse]
  have h1 : ∀ (qs J : List P2), (qs.foldl join1 J).length ≤ J.length + qs.length := by
    intro qs
    induction qs with
    | nil => intro J; exact Nat.le_refl _
    | cons q r ih =>
      intro J
      have := ih (join1 J q)
      have := join1_len J q
      rw [List.foldl_cons, List.length_cons]
      omega
  have h2 : ∀ bs : List P2, (bs.flatMap bParts).length ≤ 2 * bs.length := by
    intro bs
    induction bs with
    | nil => exact Nat.le_refl _
    | cons b r ih =>
      have := bParts_len b
      rw [List.flatMap_cons, List.length_append, List.length_cons]
      omega
  have h3 := h1 ((stack ps).reverse.flatMap bParts) []
  have h4 := h2 (stack ps).reverse
  have h5 := stack_len ps
  rw [List.length_reverse] at h4
  rw [List.length_nil] at h3
  show (((stack ps).reverse.flatMap bParts).foldl join1 []).length ≤ _
  omega
abbrev nGave : List Str := ["heaps", "place", "now", "first", "last", "before", "at", "count"]
theorem scGave : FnScope ["heaps", "place", "now", "first", "last", "before", "at", "count"] ["heaps", "place"] (defScope sGave) := ⟨rfl, rfl, rfl, by decide +kernel, rfl, by decide +kernel, by decide +kernel⟩
def spGave : Sp := fun vs H Q _ => ∃ (a : Addr) (ps : List P2) (x : Int), vs = [.ref a, .int x] ∧ PL H a ps ∧ Sz ps ∧ Bd 900 x ∧ ∀ H', Ex H H' → Q (.int (gaveF ps x)) H'
open Evl in
theorem okGave {f fC fP fR fW : Addr} {fd fdC fdP fdR fdW : FuncData} (F : Fun K "gave" "gave" sGave f fd) (m : Ms mg) (cCheck : Cl P w K mg base "check_heaps" 3 ["heaps"] spCheckHeaps fC fdC) (cPlace : Cl P w K mg base "check_place" 2 ["place"] spPlace fP fdP)
    (cRest : Cl P w K mg base "rest_stretches" 4 ["heaps"] spRest fR fdR) (cWay : Cl P w K mg base "way_to" 1 ["place", "first", "last"] spWay fW fdW) : FnOk P w K mg base CX0 5 f fd ["heaps", "place"] spGave := by
  refine F.ok scGave (fun vs H Q E h => ?_) (fun cdv A outer s H vs Q E hr h => ?_)
  · obtain ⟨a, ps, x, rfl, _⟩ := h
    rfl
  · obtain ⟨a, ps, x, rfl, ha, sz, bx, k⟩ := h
    have nd := scGave.nd
    refine ⟨_, (pss_cons (ps_expr (pe_call cCheck.F (hr.mono (by decide)) (by rfl) cCheck.g cCheck.kp cCheck.b .nil pass0 (pa_cons (pv 0) pa_nil)))
    (pss_cons (ps_expr (pe_call cPlace.F (hr.mono (by decide)) (by rfl) cPlace.g cPlace.kp cPlace.b .nil pass0 (pa_cons (pv 1) pa_nil)))
    (pss_cons (ps_set (i := 2) nd rfl (by first | exact Or.inl rfl | exact Or.inr rfl) (pe_callB (cr_sum rfl) (by rfl) m.sum_ (by decide +kernel) (pa_cons (pe_lc (own := [("first", 3), ("last", 4)]) (g := (gTup K 2 (gCons (gName 3) (gCons (gName 4) gNil)))) rfl nd (pi_list (pe_call cRest.F (hr.mono (by decide)) (by rfl) cRest.g cRest.kp cRest.b .nil pass0 (pa_cons (pv 0) pa_nil))) (blkOk_by (own := [("first", 3), ("last", 4)]) (N := nGave) (sc := defScope sGave) (by decide +kernel)) (fun _ _ _ _ _ => (pg_tup (by rfl) (pgs_cons (pg_name (i := 3) nd rfl (by first | exact Or.inl rfl | exact Or.inr rfl)) (pgs_cons (pg_name (i := 4) nd rfl (by first | exact Or.inl rfl | exact Or.inr rfl)) pgs_nil)))) (fun _ _ _ _ _ => pts_nil) (fun _ _ _ _ _ => (pe_call cWay.F (hr.mono (by decide)) (by rfl) cWay.g cWay.kp cWay.b .nil pass0 (pa_cons (pv 1) (pa_cons (pv 3) (pa_cons (pv 4) pa_nil)))))) pa_nil)))
    (pss_cons (ps_set (i := 5) nd rfl (by first | exact Or.inl rfl | exact Or.inr rfl) (pe_callB (cr_sum rfl) (by rfl) m.sum_ (by decide +kernel) (pa_cons (pe_lc (own := [("at", 6), ("count", 7)]) (g := (gTup K 2 (gCons (gName 6) (gCons (gName 7) gNil)))) rfl nd (pi_list (pv 0)) (blkOk_by (own := [("at", 6), ("count", 7)]) (N := nGave) (sc := defScope sGave) (by decide +kernel)) (fun _ _ _ _ _ => (pg_tup (by rfl) (pgs_cons (pg_name (i := 6) nd rfl (by first | exact Or.inl rfl | exact Or.inr rfl)) (pgs_cons (pg_name (i := 7) nd rfl (by first | exact Or.inl rfl | exact Or.inr rfl)) pgs_nil)))) (fun _ _ _ _ _ => pts_one (pt_cmpR op_lt (pv 6) (pv 1) (nomark _))) (fun _ _ _ _ _ => (pe_op op_mulW (pv 7) (pe_op op_sub (pv 1) (pv 6))))) pa_nil)))
    (pss_one (ps_ret (pe_op op_sub (pv 2) (pv 5)))))))), ?_⟩
    refine ⟨_, rfl, a, ps, rfl, ha, sz.ok, ?_⟩
    refine ⟨_, rfl, x, rfl, ?_⟩
    have can := (stretches_ok sz.ok).1
    have sbd := stretch_bd sz
    have hl := stretches_len ps
    have hl2 := sz.len
    refine q_asg (e_sum (ns := (stretches ps).map fun q => wayTo x q.1 q.2) (el_is (lcP_all (g := fun q => .int (wayTo x q.1 q.2)) (fun _ _ => rfl) (sl_rest (sl_of (ev_var rfl) ha) sz) (by omega) (fun q hq H1 e1 => ev_call (ea_cons (ev_var rfl) (ea_cons (ev_var rfl) (ea_cons (ev_var rfl) ea_nil))) fun H2 _ _ k _ => ⟨x, q.1, q.2, rfl, bx, (sbd q hq).1.mono (by decide), (sbd q hq).2.mono (by decide), fun H3 e3 => k H3 e3⟩)) (by rw [List.map_map]; rfl))) fun H1 e1 => ?_
    refine q_asg (e_sum (ns := (ps.filter fun q => decide (q.1 < x)).map fun q => q.2 * (x - q.1)) (el_is (lcP_val (f := fun q => decide (q.1 < x)) (g := fun q => .int (q.2 * (x - q.1))) (fun _ _ => rfl) (sl_of (ev_var rfl) (ha.mono e1)) (by omega) (fun q hq H1 e1 => e_lt (ev_var rfl) (ev_var rfl)) (fun q hq _ H1 e1 => e_mulW (ev_var rfl) (e_sub (ev_var rfl) (ev_var rfl)) ?_)) (by rw [List.map_map]; rfl))) fun H2 e2 => ?_
    · have hc : Bd 400 q.2 := by
        have := sm_mem (F := (·.2)) (fun b hb => sz.ok b hb) hq
        have h0 := sz.ok q hq
        exact sz.cnt.le (by omega)
      have hp := sz.pl q hq
      refine Bd.mulw (b := 901) hc ?_ (by decide) (by decide) (by decide)
      unfold Bd at *
      rw [show 901 = 900 + 1 from rfl, Nat.pow_succ]
      have : 2 ^ 800 ≤ 2 ^ 900 := Nat.pow_le_pow_right (by decide) (by decide)
      omega
    refine s_ret (e_sub (ev_var rfl) (ev_var rfl)) fun H3 e3 => ?_
    rw [filt_sum, show ((stretches ps).map fun q => wayTo x q.1 q.2).sum = sm (fun q => wayTo x q.1 q.2) (stretches ps) from rfl, sm_congr (G := ov (Ph x)) fun q hq => wayTo_ov (can.ne q hq)]
    exact k H3 ((e1.trans e2).trans e3)
abbrev nAllGave : List Str := ["heaps", "now", "first", "last", "before", "at", "count"]
theorem scAllGave : FnScope ["heaps", "now", "first", "last", "before", "at", "count"] ["heaps"] (defScope sAllGave) := ⟨rfl, rfl, rfl, by decide +kernel, rfl, by decide +kernel, by decide +kernel⟩
def spAll : Sp := fun vs H Q _ => ∃ (a : Addr) (ps : List P2), vs = [.ref a] ∧ PL H a ps ∧ Sz ps ∧ ∀ H', Ex H H' → Q (.int (allF ps)) H'
open Evl in
theorem okAll {f fC fR fS : Addr} {fd fdC fdR fdS : FuncData} (F : Fun K "all_gave" "all_gave" sAllGave f fd) (m : Ms mg) (cCheck : Cl P w K mg base "check_heaps" 3 ["heaps"] spCheckHeaps fC fdC)
    (cRest : Cl P w K mg base "rest_stretches" 4 ["heaps"] spRest fR fdR) (cSqs : Cl P w K mg base "squares" 2 ["first", "last"] spSqs fS fdS) : FnOk P w K mg base CX0 5 f fd ["heaps"] spAll := by
  refine F.ok scAllGave (fun vs H Q E h => ?_) (fun cdv A outer s H vs Q E hr h => ?_)
  · obtain ⟨a, ps, rfl, _⟩ := h
    rfl
  · obtain ⟨a, ps, rfl, ha, sz, k⟩ := h
    have nd := scAllGave.nd
    refine ⟨_, (pss_cons (ps_expr (pe_call cCheck.F (hr.mono (by decide)) (by rfl) cCheck.g cCheck.kp cCheck.b .nil pass0 (pa_cons (pv 0) pa_nil)))
    (pss_cons (ps_set (i := 1) nd rfl (by first | exact Or.inl rfl | exact Or.inr rfl) (pe_callB (cr_sum rfl) (by rfl) m.sum_ (by decide +kernel) (pa_cons (pe_lc (own := [("first", 2), ("last", 3)]) (g := (gTup K 2 (gCons (gName 2) (gCons (gName 3) gNil)))) rfl nd (pi_list (pe_call cRest.F (hr.mono (by decide)) (by rfl) cRest.g cRest.kp cRest.b .nil pass0 (pa_cons (pv 0) pa_nil))) (blkOk_by (own := [("first", 2), ("last", 3)]) (N := nAllGave) (sc := defScope sAllGave) (by decide +kernel)) (fun _ _ _ _ _ => (pg_tup (by rfl) (pgs_cons (pg_name (i := 2) nd rfl (by first | exact Or.inl rfl | exact Or.inr rfl)) (pgs_cons (pg_name (i := 3) nd rfl (by first | exact Or.inl rfl | exact Or.inr rfl)) pgs_nil)))) (fun _ _ _ _ _ => pts_nil) (fun _ _ _ _ _ => (pe_call cSqs.F (hr.mono (by decide)) (by rfl) cSqs.g cSqs.kp cSqs.b .nil pass0 (pa_cons (pv 2) (pa_cons (pv 3) pa_nil))))) pa_nil)))
    (pss_cons (ps_set (i := 4) nd rfl (by first | exact Or.inl rfl | exact Or.inr rfl) (pe_callB (cr_sum rfl) (by rfl) m.sum_ (by decide +kernel) (pa_cons (pe_lc (own := [("at", 5), ("count", 6)]) (g := (gTup K 2 (gCons (gName 5) (gCons (gName 6) gNil)))) rfl nd (pi_list (pv 0)) (blkOk_by (own := [("at", 5), ("count", 6)]) (N := nAllGave) (sc := defScope sAllGave) (by decide +kernel)) (fun _ _ _ _ _ => (pg_tup (by rfl) (pgs_cons (pg_name (i := 5) nd rfl (by first | exact Or.inl rfl | exact Or.inr rfl)) (pgs_cons (pg_name (i := 6) nd rfl (by first | exact Or.inl rfl | exact Or.inr rfl)) pgs_nil)))) (fun _ _ _ _ _ => pts_nil) (fun _ _ _ _ _ => (pe_op op_mulW (pe_op op_mulW (pv 6) (pv 5)) (pv 5)))) pa_nil)))
    (pss_one (ps_ret (pe_op op_fdiv (pe_op op_sub (pv 1) (pv 4)) pe_int)))))), ?_⟩
    refine ⟨_, rfl, a, ps, rfl, ha, sz.ok, ?_⟩
    have can := (stretches_ok sz.ok).1
    have sbd := stretch_bd sz
    have hl := stretches_len ps
    have hl2 := sz.len
    refine q_asg (e_sum (ns := (stretches ps).map fun q => sqTo q.2 - sqTo (q.1 - 1)) (el_is (lcP_all (g := fun q => .int (sqTo q.2 - sqTo (q.1 - 1))) (fun _ _ => rfl) (sl_rest (sl_of (ev_var rfl) ha) sz) (by omega) (fun q hq H1 e1 => ev_call (ea_cons (ev_var rfl) (ea_cons (ev_var rfl) ea_nil)) fun H2 _ _ k _ => ⟨q.1, q.2, rfl, (sbd q hq).1.mono (by decide), (sbd q hq).2.mono (by decide), fun H3 e3 => k H3 e3⟩)) (by rw [List.map_map]; rfl))) fun H1 e1 => ?_
    refine q_asg (e_sum (ns := ps.map fun q => q.2 * q.1 * q.1) (el_is (lcP_all (g := fun q => .int (q.2 * q.1 * q.1)) (fun _ _ => rfl) (sl_of (ev_var rfl) (ha.mono e1)) (by omega) (fun q hq H1 e1 => ?_)) (by rw [List.map_map]; rfl))) fun H2 e2 => ?_
    · have hc : Bd 400 q.2 := by
        have := sm_mem (F := (·.2)) (fun b hb => sz.ok b hb) hq
        have h0 := sz.ok q hq
        exact sz.cnt.le (by omega)
      have hp := sz.pl q hq
      exact e_mulW (e_mulW (ev_var rfl) (ev_var rfl) (hc.mulw hp (by decide) (by decide) (by decide))) (ev_var rfl) ((hc.mul hp).mulw hp (by decide) (by decide) (by decide))
    refine s_ret (e_div (e_sub (ev_var rfl) (ev_var rfl)) ev_c ⟨by decide, by decide⟩) fun H3 e3 => ?_
    rw [show ((stretches ps).map fun q => sqTo q.2 - sqTo (q.1 - 1)).sum = sm (fun q => sqTo q.2 - sqTo (q.1 - 1)) (stretches ps) from rfl, sm_congr (G := ov fun x => x * x) fun q hq => squares_ov (can.ne q hq)]
    exact k H3 ((e1.trans e2).trans e3)
open Evl in
theorem ev_gave {σ : L2.St} {H : Hp} {ta : TA} {s : Addr} {qs : List P2} {x : Int} (h : EvA ta σ H [.ref s, .int x]) (hs : PL H s qs) (sz : Sz qs) (bx : Bd 900 x) : Ev (tCall spGave [] E0 ta) σ H (.int (gaveF qs x)) :=
  ev_call h fun H1 e _ q _ => ⟨s, qs, x, rfl, hs.mono e, sz, bx, fun H2 e2 => q H2 e2⟩
open Evl in
theorem ev_all {σ : L2.St} {H : Hp} {ta : TE} {qs : List P2} (h : SL ta σ H qs) (sz : Sz qs) : Ev (tCall spAll [] E0 (tCons ta tNil)) σ H (.int (allF qs)) := fun H1 e Q q =>
  h H1 e _ fun s H2 e2 hs => ⟨s, qs, rfl, hs, sz, fun H3 e3 => q H3 (e2.trans e3)⟩
end

end Sp

set_option Elab.async false
set_option linter.all false
set_option maxRecDepth 100000
set_option maxHeartbeats 1000000
namespace Sp
open PySem L2 Mth
open Evl (Ex)
section
variable {P : Program} {w : World} {K : PySem.W.Frag} {mg : Str → Option Value} {base : Heap}
/-! what the law draws -/
abbrev nLawCellAt : List Str := ["_law_script", "_law_k"]
theorem scLawCellAt : FnScope ["_law_script", "_law_k"] ["_law_script", "_law_k"] (defScope sLawCellAt) := ⟨rfl, rfl, rfl, by decide +kernel, rfl, by decide +kernel, by decide +kernel⟩
def spCellAt (K : PySem.W.Frag) : Sp := fun vs H Q _ => ∃ (a : Addr) (ns : List Int) (k : Int), vs = [.ref a, .int k] ∧ SqL K H a (ns.map V.int) ∧ 0 ≤ k ∧ Q (.int (cellF ns k)) H
theorem okCellAt {f : Addr} {fd : FuncData} (F : Fun K "_law_cell_at" "_law_cell_at" sLawCellAt f fd) (m : Ms mg) : FnOk P w K mg base CX0 1 f fd ["_law_script", "_law_k"] (spCellAt K) := by
  refine F.ok scLawCellAt (fun vs H Q E h => ?_) (fun cdv A outer s H vs Q E hr h => ?_)
  · obtain ⟨a, ns, k, rfl, _⟩ := h
    rfl
  · obtain ⟨a, ns, i, rfl, ha, h0, k⟩ := h
    refine ⟨_, (pss_cons (ps_if (pt_cmpR op_lt (pv 1) (pe_callB call_len_seq (by rfl) m.len_ PySem.boot_len (pa_cons (pv 0) pa_nil)) (nomark _))
      (pss_one (ps_ret (pe_ix (r := rIxL K) ix_list (pv 0) (pv 1) (fun _ _ => rfl))))
      pss_nil)
    (pss_one (ps_ret pe_int))), ?_⟩
    refine z_if (b := decide (i < (ns.length : Int))) (a_val (v_lt (val_var rfl) fun Q q => ⟨_, rfl, a, _, rfl, .inl ha, by rw [List.length_map]; exact q⟩)) (fun c => ?_) fun c => ?_
    · have c := of_decide_eq_true c
      obtain ⟨j, rfl⟩ : ∃ j : Nat, i = (j : Int) := ⟨i.toNat, by omega⟩
      refine z_ret (v_lstq (val_var rfl) (val_var rfl) ha (v := .int (cellF ns j)) (atI_nat ?_)) k
      unfold cellF
      rw [List.getElem?_map, Int.toNat_natCast, List.getD_eq_getElem?_getD, List.getElem?_eq_getElem (show j < ns.length by omega)]
      rfl
    · have c := of_decide_eq_false c
      have e : cellF ns i = 0 := by
        unfold cellF
        rw [List.getD_eq_getElem?_getD, List.getElem?_eq_none (by omega)]
        rfl
      rw [e] at k
      exact k
abbrev nLawDraw : List Str := ["_law_cell", "_law_k", "_law_many", "_law_primes"]
theorem scLawDraw : FnScope ["_law_cell", "_law_k", "_law_many", "_law_primes"] ["_law_cell", "_law_k", "_law_many"] (defScope sLawDraw) := ⟨rfl, rfl, rfl, by decide +kernel, rfl, by decide +kernel, by decide +kernel⟩
def spDraw : Sp := fun vs H Q _ => ∃ c k n : Int, vs = [.int c, .int k, .int n] ∧ 0 < n ∧ ∀ H', Ex H H' → Q (.int (drawF c k n)) H'
theorem okDraw {f : Addr} {fd : FuncData} (F : Fun K "_law_draw" "_law_draw" sLawDraw f fd) : FnOk P w K mg base CX0 1 f fd ["_law_cell", "_law_k", "_law_many"] spDraw := by
  refine F.ok scLawDraw (fun vs H Q E h => ?_) (fun cdv A outer s H vs Q E hr h => ?_)
  · obtain ⟨c, k, n, rfl, _⟩ := h
    rfl
  · obtain ⟨c, i, n, rfl, h0, k⟩ := h
    have nd := scLawDraw.nd
    refine ⟨_, (pss_cons (ps_set (i := 3) nd rfl (by first | exact Or.inl rfl | exact Or.inr rfl) (pe_tup (pa_cons pe_int (pa_cons pe_int (pa_cons pe_int (pa_cons pe_int (pa_cons pe_int (pa_cons pe_int (pa_cons pe_int (pa_cons pe_int (pa_cons pe_int (pa_cons pe_int (pa_cons pe_int (pa_cons pe_int (pa_cons pe_int (pa_cons pe_int (pa_cons pe_int (pa_cons pe_int pa_nil))))))))))))))))))
    (pss_one (ps_ret (pe_op op_mod (pe_op op_mod (pe_op op_add (pe_op op_mul (pv 0) pe_int) (pe_op op_mul (pv 1) pe_int)) (pe_ix (r := rIxT K) ix_tup (pv 3) (pe_op op_mod (pv 1) pe_int) (fun _ _ => rfl))) (pv 2))))), ?_⟩
    refine ⟨(by show 16 ≤ sizeLine; decide), fun t nt => ?_⟩
    obtain ⟨p, hp, p0, ep⟩ := prime_at i
    have := k (upd H t (.tup (primes.map V.int))) (Evl.Ex.new nt)
    unfold drawF at this
    rw [← ep] at this
    refine z_ret (v := .int ((c * 48271 + i * 69621) % p % n)) (v_mod (v_mod (v_add (v_mul (val_var rfl) val_c (mulR (by decide))) (v_mul (val_var rfl) val_c (mulR (by decide))))
      (v_tup (a := t) (val_var rfl) (v_mod (val_var rfl) val_c (by decide)) upd_same hp) p0) (val_var rfl) h0) ?_
    exact this
theorem ev_draw {σ : L2.St} {H : Hp} {ta : TA} {c k n : Int} (h : Evl.EvA ta σ H [.int c, .int k, .int n]) (h0 : 0 < n) : Evl.Ev (tCall spDraw [] E0 ta) σ H (.int (drawF c k n)) :=
  Evl.ev_call h fun H1 _ _ q _ => ⟨c, k, n, rfl, h0, fun H' e => q H' e⟩
theorem ev_cell {σ : L2.St} {H : Hp} {ta : TA} {a : Addr} {ns : List Int} {k : Int} (h : Evl.EvA ta σ H [.ref a, .int k]) (ha : SqL K H a (ns.map V.int)) (h0 : 0 ≤ k) : Evl.Ev (tCall (spCellAt K) [] E0 ta) σ H (.int (cellF ns k)) :=
  Evl.ev_call h fun H1 e _ q _ => ⟨a, ns, k, rfl, Evl.ex_l e ha, h0, q H1 (Evl.Ex.refl _)⟩
theorem cell_nat (ns : List Int) (i : Nat) (h : i < ns.length) : (ns.map V.int)[i]? = some (.int (cellF ns i)) := by
  unfold cellF
  rw [List.getElem?_map, Int.toNat_natCast, List.getD_eq_getElem?_getD, List.getElem?_eq_getElem h]
  rfl
end

end Sp

set_option Elab.async false
set_option linter.all false
set_option maxRecDepth 100000
set_option maxHeartbeats 1000000
namespace Sp
open PySem L2 Mth
open Evl (Ex)
section
variable {P : Program} {w : World} {K : PySem.W.Frag} {mg : Str → Option Value} {base : Heap}
/-! giving one by one -/
abbrev nLawGiven : List Str := ["_law_heaps", "_law_forth", "_law_had", "_law_times", "_law_place", "_law_count", "_law_waiting", "_law_near"]
theorem scLawGiven : FnScope ["_law_heaps", "_law_forth", "_law_had", "_law_times", "_law_place", "_law_count", "_law_waiting", "_law_near"] ["_law_heaps", "_law_forth"] (defScope sLawGiven) := ⟨rfl, rfl, rfl, by decide +kernel, rfl, by decide +kernel, by decide +kernel⟩
structure Nr (hs : List P2) : Prop where
  ok : Ok hs
  pl : ∀ q ∈ hs, -7 ≤ q.1 ∧ q.1 ≤ 6
  cn : sm (·.2) hs ≤ 19
  ln : hs.length ≤ 6
  ne : hs ≠ []
structure Fin (hs ps ts : List P2) : Prop where
  np : Kn ps
  nt : Kn ts
  had : ∀ x, hadF ps x = hs01 (stretches hs) x
  tm : ∀ x, hadF ts x = gaveF hs x
  all : sm (·.2) ts = allF hs
  kp : ∀ y ∈ ps.map (·.1), -16 ≤ y ∧ y ≤ 26
  kt : ∀ y ∈ ts.map (·.1), -16 ≤ y ∧ y ≤ 26
  ne : ps ≠ []
theorem Kn.few {ps : List P2} (h : Kn ps) (hk : ∀ y ∈ ps.map (·.1), -16 ≤ y ∧ y ≤ 26) : ps.length ≤ 43 := by
  have := few_keys 43 (-16) (ps.map (fun q : P2 => q.1)) h fun x hx => by have := hk x hx; omega
  rw [List.length_map] at this
  exact this
def spGiven : Sp := fun vs H Q _ => ∃ (hp : Addr) (hs : List P2) (b : Bool), vs = [.ref hp, .bl b] ∧ PL H hp hs ∧ Nr hs ∧ ∀ H' t hd td ps ts, Ex H H' → H' t = some (.tup [.ref hd, .ref td]) → DK H' hd ps → DK H' td ts → Fin hs ps ts → Q (.ref t) H'
theorem tps_updD {H : Hp} {l : Addr} {kvs : List (Key × V)} {o : HO} {vs : List V} {qs : List P2} (hl : H l = some (.dK kvs)) (h : Tps H vs qs) : Tps (L2.upd H l o) vs qs := Paired.mapP h fun v q t => by
  obtain ⟨t, e1, e2⟩ := t
  exact ⟨t, e1, by rw [upd_ne (ne_of e2 hl (by intro z; cases z))]; exact e2⟩
theorem pl_updD {H : Hp} {a l : Addr} {kvs : List (Key × V)} {o : HO} {qs : List P2} (hl : H l = some (.dK kvs)) (h : PL H a qs) : PL (L2.upd H l o) a qs := by
  obtain ⟨vs, h1, h2⟩ := h
  exact ⟨vs, by rw [upd_ne (ne_of h1 hl (by intro z; cases z))]; exact h1, tps_updD hl h2⟩
structure LG (H H' : Hp) (hp hd td : Addr) (hs ps ts : List P2) : Prop where
  ex : Ex H H'
  hn : H hd = none
  tn : H td = none
  ne : hd ≠ td
  hp : PL H' hp hs
  d : DK H' hd ps
  t : DK H' td ts
theorem LG.mono {H H' H2 : Hp} {hp hd td : Addr} {hs ps ts : List P2} (e : Ex H' H2) (g : LG H H' hp hd td hs ps ts) : LG H H2 hp hd td hs ps ts := ⟨g.ex.trans e, g.hn, g.tn, g.ne, g.hp.mono e, g.d.mono e, g.t.mono e⟩
theorem LG.putH {H H' : Hp} {hp hd td : Addr} {hs ps ts qs : List P2} (g : LG H H' hp hd td hs ps ts) : LG H (L2.upd H' hd (.dK (encD qs))) hp hd td hs qs ts :=
  ⟨Evl.Ex.mut g.ex g.hn, g.hn, g.tn, g.ne, pl_updD g.d g.hp, upd_same, by unfold DK; rw [upd_ne g.ne.symm]; exact g.t⟩
theorem LG.putT {H H' : Hp} {hp hd td : Addr} {hs ps ts qs : List P2} (g : LG H H' hp hd td hs ps ts) : LG H (L2.upd H' td (.dK (encD qs))) hp hd td hs ps qs :=
  ⟨Evl.Ex.mut g.ex g.tn, g.hn, g.tn, g.ne, pl_updD g.t g.hp, by unfold DK; rw [upd_ne g.ne]; exact g.d, upd_same⟩
theorem LG.putL {H H' : Hp} {hp hd td l : Addr} {hs ps ts : List P2} {xs ys : List V} (g : LG H H' hp hd td hs ps ts) (hl : H' l = some (.lst xs)) (h0 : H l = none) (n : hp ≠ l) : LG H (L2.upd H' l (.lst ys)) hp hd td hs ps ts :=
  ⟨Evl.Ex.mut g.ex h0, g.hn, g.tn, g.ne, g.hp.upd hl n, by unfold DK; rw [upd_ne (ne_of g.d hl (by intro z; cases z))]; exact g.d, by unfold DK; rw [upd_ne (ne_of g.t hl (by intro z; cases z))]; exact g.t⟩
theorem putP_len (x v : Int) : ∀ ps : List P2, (putP ps x v).length ≤ ps.length + 1
  | [] => Nat.le_refl _
  | q :: r => by
    unfold putP
    split
    · simp
    · rw [List.length_cons, List.length_cons]
      have := putP_len x v r
      omega
theorem putP_ne (x v : Int) (ps : List P2) : putP ps x v ≠ [] := by
  cases ps with
  | nil => intro z; cases z
  | cons q r =>
    unfold putP
    split <;> (intro z; cases z)
theorem key_of {ps : List P2} {x : Int} (h : hadF ps x ≠ 0) : x ∈ ps.map (·.1) := Classical.byContradiction fun z => h (had_no z)
section
open Evl
variable {σ : L2.St} {H : Hp} {te : TE} {xs : List V} {D : Ends}
theorem s_asgL {i : Nat} (h : EvL te σ H xs) (k : ∀ p H1, H p = none → Ex H H1 → H1 p = some (.lst xs) → D.nx (σ.set i (some (.ref p))) H1) : tAsg te (gName i) D σ H := h H (Ex.refl H) _ k
end
structure GW (hs ps ts : List P2) (ws : List Int) : Prop where
  g : Gv hs ps ts
  need : ∀ x, 2 ≤ hadF ps x → x ∈ ws
  kp : ∀ y ∈ ps.map (·.1), -16 ≤ y ∧ y ≤ 26
  kt : ∀ y ∈ ts.map (·.1), -16 ≤ y ∧ y ≤ 26
  ne : ps ≠ []
theorem stretch_span26 {hs : List P2} (nr : Nr hs) : ∀ q ∈ stretches hs, -16 ≤ q.1 ∧ q.2 ≤ 26 := by
  obtain ⟨pm, s⟩ := stack_ok nr.ok
  have key : ∀ p ∈ (stack hs).reverse.flatMap bParts, -16 ≤ p.1 ∧ p.2 ≤ 26 := by
    intro p hp
    obtain ⟨b, hb, hp⟩ := List.mem_flatMap.mp hp
    have hb := List.mem_reverse.mp hb
    have h1 := block_span nr.ok nr.pl nr.cn hb
    have h2 := parts_in (s.ok.pos b hb) hp
    omega
  intro p hp
  have hp : p ∈ joins ((stack hs).reverse.flatMap bParts) := List.mem_reverse.mp hp
  obtain ⟨⟨z1, m1, e1⟩, ⟨z2, m2, e2⟩⟩ := joins_mem hp
  rw [e1, e2]
  refine ⟨?_, ?_⟩
  · rcases m1 with m | m
    · exact nomatch m
    · exact (key z1 m).1
  · rcases m2 with m | m
    · exact nomatch m
    · exact (key z2 m).2
open Evl in
theorem el_catB {σ : L2.St} {H : Hp} {ta tb : TE} {xs ys : List V} (ha : VL ta σ H xs) (hb : VL tb σ H ys) (hz : xs.length + ys.length ≤ 1000000) : EvL (tOp rCat ta tb) σ H (xs ++ ys) := fun H1 e Q k =>
  ha H1 e _ fun l H2 e2 h => hb H2 (e.trans e2) _ fun b H3 e3 g =>
    ⟨l, b, xs, ys, rfl, rfl, e3 _ _ h, g, (by rw [sizeLine_eq]; omega), fun r nr => k r _ (Evl.fresh_back (e2.trans e3) nr) ((e2.trans e3).trans (Ex.new nr)) upd_same⟩
theorem g_two {K : PySem.W.Frag} {σ : L2.St} {H : Hp} {t : Addr} {x y : V} {i j : Nat} {Q : L2.St → Hp → Prop} (h : H t = some (.tup [x, y])) (k : Q ((σ.set i (some x)).set j (some y)) H) : gTup K 2 (gCons (gName i) (gCons (gName j) gNil)) (.ref t) σ H Q :=
  ⟨t, _, rfl, SqT.of h, rfl, _, _, rfl, _, _, rfl, rfl, k⟩
/-- where the three heaps stand in turn -/
def gv3 (ps : List P2) (x : Int) : Nat → List P2
  | 0 => putP ps x (hadF ps x - 2)
  | 1 => putP (putP ps x (hadF ps x - 2)) (x - 1) (hadF (putP ps x (hadF ps x - 2)) (x - 1) + 1)
  | _ => give ps x
open Evl in
theorem okGiven {f : Addr} {fd : FuncData} (F : Fun K "_law_given" "_law_given" sLawGiven f fd) (m : Ms mg) : FnOk P w K mg base CX0 1 f fd ["_law_heaps", "_law_forth"] spGiven := by
  refine F.ok scLawGiven (fun vs H Q E h => ?_) (fun cdv A outer s H vs Q E hr h => ?_)
  · obtain ⟨hp, hs, b, rfl, _⟩ := h
    rfl
  · obtain ⟨hp, hs, b, rfl, hhp, nr, k⟩ := h
    have nd := scLawGiven.nd
    have hu := Nat.lt_of_le_of_lt (Nat.add_le_add_left (show 1 ≤ 64 by decide) _) hr.units
    refine ⟨_, (pss_cons (ps_asg (pe_tup (pa_cons pe_dnewK (pa_cons pe_dnewK pa_nil))) (pg_tup (by rfl) (pgs_cons (pg_name (i := 2) nd rfl (by first | exact Or.inl rfl | exact Or.inr rfl)) (pgs_cons (pg_name (i := 3) nd rfl (by first | exact Or.inl rfl | exact Or.inr rfl)) pgs_nil))))
    (pss_cons (ps_for PassesOwn.never rfl (pi_list (pv 0)) (pg_tup (by rfl) (pgs_cons (pg_name (i := 4) nd rfl (by first | exact Or.inl rfl | exact Or.inr rfl)) (pgs_cons (pg_name (i := 5) nd rfl (by first | exact Or.inl rfl | exact Or.inr rfl)) pgs_nil)))
      (pss_one (ps_dput hu (pv 2) (pv 4) (pe_op op_add (pe_dget2 hu (pv 2) (pv 4) pe_int ⟨by rfl, by rfl, by rfl, by rfl⟩) (pv 5)) rfl)))
    (pss_cons (ps_setLc (i := 6) (own := [("_law_place", 4), ("_law_count", 5)]) (g := (gTup K 2 (gCons (gName 4) (gCons (gName 5) gNil)))) rfl nd rfl rfl (sw_true rfl rfl rfl (by decide +kernel)) (pi_list (pv 0)) (blkOk_by (own := [("_law_place", 4), ("_law_count", 5)]) (N := nLawGiven) (sc := defScope sLawGiven) (by decide +kernel)) (fun _ _ _ _ _ => (pg_tup (by rfl) (pgs_cons (pg_name (i := 4) nd rfl (by first | exact Or.inl rfl | exact Or.inr rfl)) (pgs_cons (pg_name (i := 5) nd rfl (by first | exact Or.inl rfl | exact Or.inr rfl)) pgs_nil)))) (fun _ _ _ _ _ => pts_nil) (fun _ _ _ _ _ => (pv 4)))
    (pss_cons (ps_while PassesOwn.never (pt_cmpR (op_neD hr.units) (pv 6) (pe_lst pa_nil) (nomark _))
      (pss_cons (ps_set (i := 4) nd rfl (by first | exact Or.inl rfl | exact Or.inr rfl) (pe_ifExp (pt_val (pv 1)) (pe_callB (cr_min rfl) (by rfl) m.min_ (by decide +kernel) (pa_cons (pv 6) pa_nil)) (pe_callB (cr_max rfl) (by rfl) m.max_ (by decide +kernel) (pa_cons (pv 6) pa_nil))))
      (pss_cons (ps_expr (pe_bm PySem.F.plainAttrs_list PySem.F.slot_list_remove PySem.F.type_list_remove mt_remove (pv 6) (pa_cons (pv 4) pa_nil)))
      (pss_one (ps_if (pt_cmpR op_gt (pe_dget2 hu (pv 2) (pv 4) pe_int ⟨by rfl, by rfl, by rfl, by rfl⟩) pe_int (nomark _))
        (pss_cons (ps_dput hu (pv 2) (pv 4) (pe_op op_sub (pe_dget hu (pv 2) (pv 4) (fun _ _ => rfl)) pe_int) rfl)
        (pss_cons (ps_dput hu (pv 3) (pv 4) (pe_op op_add (pe_dget2 hu (pv 3) (pv 4) pe_int ⟨by rfl, by rfl, by rfl, by rfl⟩) pe_int) rfl)
        (pss_cons (ps_for PassesOwn.never rfl (pi_tup (pe_tup (pa_cons (pe_op op_sub (pv 4) pe_int) (pa_cons (pe_op op_add (pv 4) pe_int) pa_nil)))) (pg_name (i := 7) nd rfl (by first | exact Or.inl rfl | exact Or.inr rfl))
          (pss_one (ps_dput hu (pv 2) (pv 7) (pe_op op_add (pe_dget2 hu (pv 2) (pv 7) pe_int ⟨by rfl, by rfl, by rfl, by rfl⟩) pe_int) rfl)))
        (pss_one (ps_set (i := 6) nd rfl (by first | exact Or.inl rfl | exact Or.inr rfl) (pe_op op_cat (pv 6) (pe_lc (own := [("_law_near", 7)]) (g := (gName 7)) rfl nd (pi_tup (pe_tup (pa_cons (pe_op op_sub (pv 4) pe_int) (pa_cons (pv 4) (pa_cons (pe_op op_add (pv 4) pe_int) pa_nil))))) (blkOk_by (own := [("_law_near", 7)]) (N := nLawGiven) (sc := defScope sLawGiven) (by decide +kernel)) (fun _ _ _ _ _ => (pg_name (i := 7) nd rfl (by first | exact Or.inl rfl | exact Or.inr rfl))) (fun _ _ _ _ _ => pts_one (pt_cmpR op_gt (pe_dget hu (pv 2) (pv 7) (fun _ _ => rfl)) pe_int (nomark _))) (fun _ _ _ _ _ => (pv 7)))))))))
        pss_nil)))))
    (pss_one (ps_ret (pe_tup (pa_cons (pv 2) (pa_cons (pv 3) pa_nil))))))))), ?_⟩
    refine fun hd nhd td ntd => ⟨(by show 2 ≤ sizeLine; decide), fun t0 nt0 => ?_⟩
    have n1 : hd ≠ td := fun z => by rw [← z, upd_same] at ntd; cases ntd
    have ntd0 : H td = none := by rw [upd_ne n1.symm] at ntd; exact ntd
    have e0 : Ex H (upd (upd (upd H hd (.dK [])) td (.dK [])) t0 (.tup [.ref hd, .ref td])) := ((Ex.new nhd).trans (Ex.new ntd)).trans (Ex.new nt0)
    have e00 := Ex.new (o := .tup [.ref hd, .ref td]) nt0
    have G0 : LG H (upd (upd (upd H hd (.dK [])) td (.dK [])) t0 (.tup [.ref hd, .ref td])) hp hd td hs [] [] := ⟨e0, nhd, ntd0, n1, hhp.mono e0, e00 _ _ (by rw [upd_ne n1]; exact upd_same), e00 _ _ upd_same⟩
    refine g_two (K := K) (t := t0) upd_same ?_
    -- what each place has
    refine q_forS (sl_of (ev_var rfl) G0.hp)
      (fun p vs i σ H' => ∃ o4 o5 ps, σ = [some (.ref hp), some (.bl b), some (.ref hd), some (.ref td), o4, o5, none, none] ∧ LG H H' hp hd td hs ps [] ∧ H' p = some (.lst vs) ∧ Tps H' vs hs ∧ Rd0 (hs.take i) ps ∧ ps.length ≤ i ∧ (0 < i → ps ≠ []))
      (fun p vs H1 e1 h1 h2 => ⟨_, _, [], rfl, G0.mono e1, h1, h2, Rd0.nil, Nat.le_refl _, fun z => absurd z (Nat.lt_irrefl 0)⟩) (fun p vs i σ' H' _ ⟨_, _, _, _, _, h, _⟩ => SqL.of h) (fun p vs i y σ' H1 hi hP => ?_) (fun p vs σ' H1 hl hP => ?_)
    · obtain ⟨o4, o5, ps, rfl, G1, hp1, hpt1, r1, l1, _⟩ := hP
      obtain ⟨q, hq, tq⟩ := pr_get hpt1 hi
      refine g_pair tq ?_
      refine s_put (e_add (e_get (ev_var rfl) G1.d r1.np (ev_var rfl)) (ev_var rfl)) (ev_var rfl) (ev_var rfl) G1.d r1.np (by have := nr.ln; have := (List.getElem?_eq_some_iff.mp hq).1; omega) fun H2 e2 => ?_
      have G2 := G1.mono e2
      refine ⟨_, _, putP ps q.1 (hadF ps q.1 + q.2), rfl, G2.putH, by rw [upd_ne (ne_of (e2 _ _ hp1) G2.d (by intro z; cases z))]; exact e2 _ _ hp1, tps_updD G2.d (hpt1.mono e2), ?_, ?_, fun _ => putP_ne _ _ _⟩
      · rw [take_snoc hq]
        exact r1.snoc q
      · have := putP_len q.1 (hadF ps q.1 + q.2) ps
        omega
    · obtain ⟨o4, o5, ps, rfl, G1, hp1, hpt1, r1, l1, ne1⟩ := hP
      rw [hl, List.take_length] at r1
      have lpos : 0 < hs.length := List.length_pos_iff.mpr nr.ne
      have ne1 := ne1 (by omega)
      have gv1 := Gv.start nr.ok r1
      have kp1 : ∀ y ∈ ps.map (·.1), -16 ≤ y ∧ y ≤ 26 := fun y hy => by
        obtain ⟨q, hq, e⟩ := List.mem_map.mp (r1.keys y hy)
        have := nr.pl q hq
        omega
      have lps := nr.ln
      refine q_asgL (lcP_all (g := fun q => .int q.1) (fun _ _ => rfl) (sl_of (ev_var rfl) G1.hp) (by omega) (fun q hq H1 e1 => ev_var rfl)) fun w0 H2 nw0 e2 hw0 => ?_
      have hw0 : IL H2 w0 (hs.map (·.1)) := by unfold IL; rw [hw0, List.map_map]; rfl
      have G2 := G1.mono e2
      have nw : H w0 = none := Evl.fresh_back G1.ex nw0
      have nhw : hp ≠ w0 := fun z => by
        obtain ⟨vs, h1, _⟩ := G1.hp
        rw [z, nw0] at h1
        cases h1
      have need0 : ∀ x, 2 ≤ hadF ps x → x ∈ hs.map (·.1) := fun x hx => r1.keys x (key_of (by omega))
      clear hp1 hpt1 l1 hl
      -- one by one
      have sp := stretch_span26 nr
      have tl := todo_le nr.ok nr.cn sp
      refine q_while (fun mm σ H' => ∃ o4 o5 o7 wl ws ps ts, mm = 4 * (todo hs ts).toNat + ws.length ∧ mm ≤ 200000 ∧ σ = [some (.ref hp), some (.bl b), some (.ref hd), some (.ref td), o4, o5, some (.ref wl), o7] ∧ LG H H' hp hd td hs ps ts ∧ H wl = none ∧ hp ≠ wl ∧ IL H' wl ws ∧ GW hs ps ts ws)
        (4 * (todo hs []).toNat + (hs.map (·.1)).length) ?_ (fun mm σ H3 hW => ?_)
      · exact ⟨_, _, _, w0, _, ps, [], rfl, by rw [List.length_map]; omega, rfl, G2, nw, nhw, hw0, ⟨gv1, need0, kp1, (fun _ h => nomatch h), ne1⟩⟩
      · obtain ⟨o4, o5, o7, wl, ws, ps, ts, hmm, hm2, rfl, G3, nwl, nhl, hwl, gw⟩ := hW
        refine ⟨_, et_neI0 (ev_var rfl) hwl, fun hb H4 e4 => ?_, fun hb H4 e4 => ?_⟩
        · have hne : ws ≠ [] := fun z => by rw [z] at hb; cases hb
          have G4 := G3.mono e4
          have hwl4 : IL H4 wl ws := e4 _ _ hwl
          refine ⟨fun σ2 H2 => ∃ m', m' < mm ∧ ∃ o4 o5 o7 wl ws ps ts, m' = 4 * (todo hs ts).toNat + ws.length ∧ m' ≤ 200000 ∧ σ2 = [some (.ref hp), some (.bl b), some (.ref hd), some (.ref td), o4, o5, some (.ref wl), o7] ∧ LG H H2 hp hd td hs ps ts ∧ H wl = none ∧ hp ≠ wl ∧ IL H2 wl ws ∧ GW hs ps ts ws, fun σ2 H2 h => h, ?_⟩
          refine q_pick (et_B (ev_var rfl)) (ev_var rfl) hwl4 hne fun x hx H5 e5 => ?_
          have G5 := G4.mono e5
          refine q_rem (ns := ws) (m := x) (ev_var rfl) (ev_var rfl) (e5 _ _ hwl4) hx fun H6 ws' e6 hw6 s1 s2 s3 => ?_
          have G6 := (G5.mono e6).putL (ys := ws'.map V.int) hw6 nwl nhl
          have hw6' : IL (upd H6 wl (.lst (ws'.map V.int))) wl ws' := upd_same
          generalize upd H6 wl (.lst (ws'.map V.int)) = H7 at *
          refine s_when (e_gt (e_get (ev_var rfl) G6.d gw.g.np (ev_var rfl)) ev_c) (fun c H8 e8 => ?_) fun c H8 e8 => ?_
          · -- it gives
            have c : 2 ≤ hadF ps x := by have := of_decide_eq_true c; omega
            have G8 := G6.mono e8
            have less := gw.g.less nr.ok c
            have w0 := gw.g.w0 x
            obtain ⟨x1, x2⟩ := gave_span nr.ok nr.pl nr.cn (x := x) (by omega)
            have stp := gw.g.step nr.ok c
            have tp := todo_put (ps := ps) gw.g (x := x) (by omega) (by omega)
            have t0 := stp.todo0
            have few := Kn.few gw.g.np gw.kp
            have fet := Kn.few gw.g.nt gw.kt
            have kx : x ∈ ps.map (·.1) := key_of (by omega)
            refine q_put (e_sub (e_sub1 (ev_var rfl) G8.d gw.g.np (ev_var rfl) kx) ev_c) (ev_var rfl) (ev_var rfl) G8.d gw.g.np (by omega) fun H9 e9 => ?_
            have G9 := (G8.mono e9).putH (qs := putP ps x (hadF ps x - 2))
            have hw9 : IL (upd H9 hd (.dK (encD (putP ps x (hadF ps x - 2))))) wl ws' := by
              unfold IL
              have h9 := (e8.trans e9) _ _ hw6'
              rw [upd_ne (ne_of h9 (G8.mono e9).d (by intro z; cases z))]
              exact h9
            generalize upd H9 hd (.dK (encD (putP ps x (hadF ps x - 2)))) = H10 at *
            refine q_put (e_add (e_get (ev_var rfl) G9.t gw.g.nt (ev_var rfl)) ev_c) (ev_var rfl) (ev_var rfl) G9.t gw.g.nt (by omega) fun H11 e11 => ?_
            have G11 := (G9.mono e11).putT (qs := putP ts x (hadF ts x + 1))
            have hw11 : IL (upd H11 td (.dK (encD (putP ts x (hadF ts x + 1))))) wl ws' := by
              unfold IL
              have h9 := e11 _ _ hw9
              rw [upd_ne (ne_of h9 (G9.mono e11).t (by intro z; cases z))]
              exact h9
            generalize upd H11 td (.dK (encD (putP ts x (hadF ts x + 1)))) = H12 at *
            refine q_forTm (xs := [.int (x - 1), .int (x + 1)]) (ea_cons (e_sub (ev_var rfl) ev_c) (ea_cons (e_add (ev_var rfl) ev_c) ea_nil)) (by simp)
              (fun t i σ H' => ∃ o7, σ = [some (.ref hp), some (.bl b), some (.ref hd), some (.ref td), some (.int x), o5, some (.ref wl), o7] ∧ H' t = some (.tup [.int (x - 1), .int (x + 1)]) ∧ LG H H' hp hd td hs (gv3 ps x i) (putP ts x (hadF ts x + 1)) ∧ IL H' wl ws')
              (fun t H13 nt e13 ht => ⟨_, rfl, ht, G11.mono e13, e13 _ _ hw11⟩) (fun t i σ' H' ⟨_, _, h, _⟩ => h) (fun t i y σ' H13 hi hP => ?_) (fun t σ' H13 hP => ?_)
            · obtain ⟨o7, rfl, ht, G13, hw13⟩ := hP
              match i, hi with
              | 0, hi =>
                rcases Option.some.inj hi with rfl
                have kn : Kn (gv3 ps x 0) := putP_kn gw.g.np
                have pl := putP_len x (hadF ps x - 2) ps
                refine s_put (e_add (e_get (ev_var rfl) G13.d kn (ev_var rfl)) ev_c) (ev_var rfl) (ev_var rfl) G13.d kn (by show (putP ps x (hadF ps x - 2)).length < 100000; omega) fun H14 e14 => ?_
                have G14 := G13.mono e14
                refine ⟨_, rfl, by rw [upd_ne (ne_of (e14 _ _ ht) G14.d (by intro z; cases z))]; exact e14 _ _ ht, G14.putH, ?_⟩
                unfold IL
                rw [upd_ne (ne_of (e14 _ _ hw13) G14.d (by intro z; cases z))]
                exact e14 _ _ hw13
              | 1, hi =>
                rcases Option.some.inj hi with rfl
                have kn : Kn (gv3 ps x 1) := putP_kn (putP_kn gw.g.np)
                have pl := putP_len x (hadF ps x - 2) ps
                have pl2 := putP_len (x - 1) (hadF (putP ps x (hadF ps x - 2)) (x - 1) + 1) (putP ps x (hadF ps x - 2))
                refine s_put (e_add (e_get (ev_var rfl) G13.d kn (ev_var rfl)) ev_c) (ev_var rfl) (ev_var rfl) G13.d kn (by show (putP (putP ps x (hadF ps x - 2)) (x - 1) _).length < 100000; omega) fun H14 e14 => ?_
                have G14 := G13.mono e14
                refine ⟨_, rfl, by rw [upd_ne (ne_of (e14 _ _ ht) G14.d (by intro z; cases z))]; exact e14 _ _ ht, G14.putH, ?_⟩
                unfold IL
                rw [upd_ne (ne_of (e14 _ _ hw13) G14.d (by intro z; cases z))]
                exact e14 _ _ hw13
              | i + 2, hi => simp at hi
            · obtain ⟨o7, rfl, ht, G13, hw13⟩ := hP
              have G13 : LG H H13 hp hd td hs (give ps x) (putP ts x (hadF ts x + 1)) := G13
              have kin : ∀ z, z = x - 1 ∨ z = x ∨ z = x + 1 → z ∈ (give ps x).map (·.1) := fun z hz => by
                unfold give
                rcases hz with rfl | rfl | rfl
                · exact (putP_keys _ _ _ _).mpr (.inr ((putP_keys _ _ _ _).mpr (.inl rfl)))
                · exact (putP_keys _ _ _ _).mpr (.inr ((putP_keys _ _ _ _).mpr (.inr ((putP_keys _ _ _ _).mpr (.inl rfl)))))
                · exact (putP_keys _ _ _ _).mpr (.inl rfl)
              have fl := List.length_filter_le (fun z => decide (1 < hadF (give ps x) z)) [x - 1, x, x + 1]
              rw [show [x - 1, x, x + 1].length = 3 from rfl] at fl
              refine s_asgL (el_catB (vl_of (ev_var rfl) hw13) (vl_new (lcT_val (ns := [x - 1, x, x + 1]) (fun z => decide (1 < hadF (give ps x) z)) (fun _ => rfl) (fun _ => rfl) (ea_cons (e_sub (ev_var rfl) ev_c) (ea_cons (ev_var rfl) (ea_cons (e_add (ev_var rfl) ev_c) ea_nil))) (by simp) (fun z hz H1 e1 => e_gt (e_sub1 (ev_var rfl) (G13.mono e1).d stp.np (ev_var rfl) (kin z (by simpa using hz))) ev_c))) (by rw [List.length_map, List.length_map]; omega)) fun w2 H14 nw2 e14 hw2 => ?_
              refine ⟨4 * (todo hs (putP ts x (hadF ts x + 1))).toNat + (ws' ++ [x - 1, x, x + 1].filter fun z => decide (1 < hadF (give ps x) z)).length, ?_, _, _, _, w2, _, give ps x, _, rfl, ?_, rfl, G13.mono e14, Evl.fresh_back G13.ex nw2, fun z => ?_, ?_, ⟨stp, fun y hy => ?_, fun y hy => ?_, fun y hy => ?_, ?_⟩⟩
              · rw [List.length_append]; omega
              · rw [List.length_append]; omega
              · obtain ⟨vs, h1, _⟩ := G13.hp
                rw [z, nw2] at h1
                cases h1
              · unfold IL
                rw [List.map_append]
                exact hw2
              · by_cases near : y = x - 1 ∨ y = x ∨ y = x + 1
                · exact List.mem_append_right _ (List.mem_filter.mpr ⟨by simpa using near, decide_eq_true (by omega)⟩)
                · refine List.mem_append_left _ (s1 y (gw.need y ?_) (by omega))
                  rw [give_had gw.g.np, if_neg (by omega), if_neg (by omega), if_neg (by omega)] at hy
                  omega
              · rcases give_keys hy with e | e | e | e
                · omega
                · omega
                · omega
                · exact gw.kp y e
              · rcases (putP_keys _ _ _ _).mp hy with e | e
                · omega
                · exact gw.kt y e
              · exact putP_ne _ _ _
          · -- it rests
            have c : hadF ps x ≤ 1 := by have := of_decide_eq_false c; omega
            refine ⟨4 * (todo hs ts).toNat + ws'.length, by omega, _, _, _, wl, ws', ps, ts, rfl, by omega, rfl, G6.mono e8, nwl, nhl, e8 _ _ hw6', ⟨gw.g, fun y hy => s1 y (gw.need y hy) fun z => by rw [z] at hy; omega, gw.kp, gw.kt, gw.ne⟩⟩
        · have hemp : ws = [] := by
            apply Classical.byContradiction
            intro z
            rw [decide_eq_false z] at hb
            cases hb
          subst hemp
          have dn := gw.g.done nr.ok fun x => by
            apply Classical.byContradiction
            intro z
            exact nomatch gw.need x (by omega)
          have G4 := G3.mono e4
          refine (show tTup (tCons (tVar 2) (tCons (tVar 3) tNil)) _ H4 _ from ?_)
          refine (ea_cons (ev_var rfl) (ea_cons (ev_var rfl) ea_nil)) H4 (Ex.refl _) _ fun H5 e5 => ⟨(by show 2 ≤ sizeLine; decide), fun t nt => ?_⟩
          have G5 := (G4.mono e5).mono (Ex.new (o := .tup [.ref hd, .ref td]) nt)
          exact k _ t hd td ps ts G5.ex upd_same G5.d G5.t ⟨gw.g.np, gw.g.nt, dn.2.1, dn.1, dn.2.2, gw.kp, gw.kt, gw.ne⟩
end

end Sp

set_option Elab.async false
set_option linter.all false
set_option maxRecDepth 100000
set_option maxHeartbeats 1000000
namespace Sp
open PySem L2 Mth
open Evl (Ex)
section
variable {P : Program} {w : World} {K : PySem.W.Frag} {mg : Str → Option Value} {base : Heap}
abbrev nLaw : List Str := ["_law_script", "_law_heaps", "_law_k", "_law_stretches", "_law_forth", "_law_had", "_law_times", "_law_place", "_law_rest", "_law_first", "_law_last", "_law_many"]
theorem scLaw : FnScope ["_law_script", "_law_heaps", "_law_k", "_law_stretches", "_law_forth", "_law_had", "_law_times", "_law_place", "_law_rest", "_law_first", "_law_last", "_law_many"] ["_law_script"] (defScope sLaw) := ⟨rfl, rfl, rfl, by decide +kernel, rfl, by decide +kernel, by decide +kernel⟩
def spLaw (K : PySem.W.Frag) : Sp := fun vs H Q _ => ∃ (a : Addr) (ns : List Int), vs = [.ref a] ∧ SqL K H a (ns.map V.int) ∧ ns.length ≤ 63 ∧ ∀ H', Q (.bl true) H'
def h5 (ns : List Int) (i : Nat) : P2 := (drawF (cellF ns i) ((i : Int) % 5 + 1) 14 - 7, drawF (cellF ns i) ((i : Int) % 7 + 2) 3)
def heap2 (ns : List Int) : List P2 := (List.range (min ns.length 5)).map (h5 ns) ++ [(drawF (cellF ns 0) 6 5, drawF (cellF ns 1) 7 10)]
theorem h5_ok (ns : List Int) (i : Nat) : -7 ≤ (h5 ns i).1 ∧ (h5 ns i).1 ≤ 6 ∧ 0 ≤ (h5 ns i).2 ∧ (h5 ns i).2 ≤ 2 := by
  unfold h5
  have a1 := drawF_lo (c := cellF ns i) (k := (i : Int) % 5 + 1) (m := 14) (by decide)
  have a2 := drawF_hi (c := cellF ns i) (k := (i : Int) % 5 + 1) (m := 14) (by decide)
  have b1 := drawF_lo (c := cellF ns i) (k := (i : Int) % 7 + 2) (m := 3) (by decide)
  have b2 := drawF_hi (c := cellF ns i) (k := (i : Int) % 7 + 2) (m := 3) (by decide)
  refine ⟨by simp only; omega, by simp only; omega, by simp only; omega, by simp only; omega⟩
theorem heap2_nr (ns : List Int) : Nr (heap2 ns) := by
  have a1 := drawF_lo (c := cellF ns 0) (k := 6) (m := 5) (by decide)
  have a2 := drawF_hi (c := cellF ns 0) (k := 6) (m := 5) (by decide)
  have b1 := drawF_lo (c := cellF ns 1) (k := 7) (m := 10) (by decide)
  have b2 := drawF_hi (c := cellF ns 1) (k := 7) (m := 10) (by decide)
  have ln : ((List.range (min ns.length 5)).map (h5 ns)).length ≤ 5 := by rw [List.length_map, List.length_range]; omega
  refine ⟨fun q hq => ?_, fun q hq => ?_, ?_, ?_, ?_⟩
  · rcases List.mem_append.mp hq with hq | hq
    · obtain ⟨i, _, rfl⟩ := List.mem_map.mp hq
      exact (h5_ok ns i).2.2.1
    · rcases List.mem_singleton.mp hq with rfl
      exact b1
  · rcases List.mem_append.mp hq with hq | hq
    · obtain ⟨i, _, rfl⟩ := List.mem_map.mp hq
      exact ⟨(h5_ok ns i).1, (h5_ok ns i).2.1⟩
    · rcases List.mem_singleton.mp hq with rfl
      exact ⟨by simp only; omega, by simp only; omega⟩
  · unfold heap2
    rw [sm_append, sm_cons, sm_nil]
    have := sm_le (F := (·.2)) (B := 2) (l := (List.range (min ns.length 5)).map (h5 ns)) fun q hq => by
      obtain ⟨i, _, rfl⟩ := List.mem_map.mp hq
      exact (h5_ok ns i).2.2.2
    simp only
    omega
  · unfold heap2
    rw [List.length_append, List.length_singleton]
    omega
  · unfold heap2
    simp
theorem Nr.hb {hs : List P2} (n : Nr hs) : HB 6 hs := by
  refine ⟨n.ln, fun q hq => ?_⟩
  have h1 := n.pl q hq
  have h2 := n.ok q hq
  have h3 : q.2 ≤ sm (·.2) hs := sm_mem (F := (·.2)) (fun c hc => n.ok c hc) hq
  have h4 := n.cn
  unfold Bd
  rw [two200]
  refine ⟨h2, by omega, by omega⟩
section
open Evl
variable {σ : L2.St} {H : Hp} {te : TE} {ta : TA} {D : Ends} {tz tu : TS} {g : TG}
theorem e_min2 {i j : Int} (h : EvA ta σ H [.int i, .int j]) : Ev (tCB (fun xs H Q => ∃ i j, xs = [.int i, .int j] ∧ Q (.int (if j < i then j else i)) H) ta) σ H (.int (if j < i then j else i)) := fun H1 e Q q =>
  h H1 e _ fun H2 e2 => ⟨i, j, rfl, q H2 e2⟩
theorem q_asgS {i : Nat} {qs : List P2} (h : SL te σ H qs) (k : ∀ p H1, Ex H H1 → PL H1 p qs → tz D (σ.set i (some (.ref p))) H1) : tSeq (tAsg te (gName i)) tz D σ H := h H (Ex.refl H) _ fun p H1 e hp => k p H1 e hp
theorem q_forR {n : Nat} (h : EvA ta σ H [.int (n : Int)]) (hn : n ≤ 100000) (Pv : Nat → L2.St → Hp → Prop) (h0 : ∀ H1, Ex H H1 → Pv 0 σ H1)
    (hs : ∀ i σ' H', i < n → Pv i σ' H' → g (.int (0 + (i : Int))) σ' H' fun σ2 H2 => tu { D with nx := Pv (i + 1), ct := Pv (i + 1), bk := tz D } σ2 H2) (hd : ∀ σ' H', Pv n σ' H' → tz D σ' H') : tSeq (tFor (iRng1 ta) g tu) tz D σ H :=
  h H (Ex.refl H) _ fun H1 e1 => ⟨(n : Int), rfl, by omega, by omega, for_range (lo := 0) (n := n) Pv (h0 H1 e1) hs hd⟩
theorem ev_left {s : Addr} {qs : List P2} {x : Int} (h : EvA ta σ H [.ref s, .int x]) (hs : PL H s qs) (sz : Sz qs) : Ev (tCall spLeft [] E0 ta) σ H (.int (if hasB (stretches qs) x then 1 else 0)) :=
  ev_call h fun H1 e _ q _ => ⟨s, qs, x, rfl, hs.mono e, sz, fun H2 e2 => q H2 e2⟩
end
open Evl in
theorem okLaw {S f fC fD fI fS fL fV fG : Addr} {fd fdC fdD fdI fdS fdL fdV fdG : FuncData} (F : Fun K "law" "law" sLaw f fd) (T : STxt K S) (m : Ms mg) (cCell : Cl P w K mg base "_law_cell_at" 1 ["_law_script", "_law_k"] (spCellAt K) fC fdC) (cDraw : Cl P w K mg base "_law_draw" 1 ["_law_cell", "_law_k", "_law_many"] spDraw fD fdD)
    (cGiven : Cl P w K mg base "_law_given" 1 ["_law_heaps", "_law_forth"] spGiven fI fdI) (cSpread : Cl P w K mg base "spread" 5 ["heaps"] (spSpread S) fS fdS) (cLeft : Cl P w K mg base "left" 5 ["heaps", "place"] spLeft fL fdL)
    (cGave : Cl P w K mg base "gave" 5 ["heaps", "place"] spGave fV fdV) (cAll : Cl P w K mg base "all_gave" 5 ["heaps"] spAll fG fdG) : FnOk P w K mg base CX0 6 f fd ["_law_script"] (spLaw K) := by
  refine F.ok scLaw (fun vs H Q E h => ?_) (fun cdv A outer s H vs Q E hr h => ?_)
  · obtain ⟨a, ns, rfl, _⟩ := h
    rfl
  · obtain ⟨a, ns, rfl, ha, hlen, k⟩ := h
    have nd := scLaw.nd
    have hu := Nat.lt_of_le_of_lt (Nat.add_le_add_left (show 1 ≤ 64 by decide) _) hr.units
    refine ⟨_, (pss_cons (ps_set (i := 1) nd rfl (by first | exact Or.inl rfl | exact Or.inr rfl) (pe_lst pa_nil))
    (pss_cons (ps_for PassesOwn.never rfl (pi_range1 (by rfl) m.range_ (pa_cons (pe_callB (call_min2 rfl) (by rfl) m.min_ (by decide +kernel) (pa_cons (pe_callB call_len_seq (by rfl) m.len_ PySem.boot_len (pa_cons (pv 0) pa_nil)) (pa_cons pe_int pa_nil))) pa_nil)) (pg_name (i := 2) nd rfl (by first | exact Or.inl rfl | exact Or.inr rfl))
      (pss_one (ps_expr (pe_bm PySem.F.plainAttrs_list PySem.F.slot_list_append PySem.F.type_list_append mt_append (pv 1) (pa_cons (pe_tup (pa_cons (pe_op op_sub (pe_call cDraw.F (hr.mono (by decide)) (by rfl) cDraw.g cDraw.kp cDraw.b .nil pass0 (pa_cons (pe_ix (r := rIxL K) ix_list (pv 0) (pv 2) (fun _ _ => rfl)) (pa_cons (pe_op op_add (pe_op op_mod (pv 2) pe_int) pe_int) (pa_cons pe_int pa_nil)))) pe_int) (pa_cons (pe_call cDraw.F (hr.mono (by decide)) (by rfl) cDraw.g cDraw.kp cDraw.b .nil pass0 (pa_cons (pe_ix (r := rIxL K) ix_list (pv 0) (pv 2) (fun _ _ => rfl)) (pa_cons (pe_op op_add (pe_op op_mod (pv 2) pe_int) pe_int) (pa_cons pe_int pa_nil)))) pa_nil))) pa_nil)))))
    (pss_cons (ps_expr (pe_bm PySem.F.plainAttrs_list PySem.F.slot_list_append PySem.F.type_list_append mt_append (pv 1) (pa_cons (pe_tup (pa_cons (pe_call cDraw.F (hr.mono (by decide)) (by rfl) cDraw.g cDraw.kp cDraw.b .nil pass0 (pa_cons (pe_call cCell.F (hr.mono (by decide)) (by rfl) cCell.g cCell.kp cCell.b .nil pass0 (pa_cons (pv 0) (pa_cons pe_int pa_nil))) (pa_cons pe_int (pa_cons pe_int pa_nil)))) (pa_cons (pe_call cDraw.F (hr.mono (by decide)) (by rfl) cDraw.g cDraw.kp cDraw.b .nil pass0 (pa_cons (pe_call cCell.F (hr.mono (by decide)) (by rfl) cCell.g cCell.kp cCell.b .nil pass0 (pa_cons (pv 0) (pa_cons pe_int pa_nil))) (pa_cons pe_int (pa_cons pe_int pa_nil)))) pa_nil))) pa_nil)))
    (pss_cons (ps_set (i := 3) nd rfl (by first | exact Or.inl rfl | exact Or.inr rfl) (pe_fld (pe_call cSpread.F (hr.mono (by decide)) (by rfl) cSpread.g cSpread.kp cSpread.b .nil pass0 (pa_cons (pv 1) pa_nil)) rfl))
    (pss_cons (ps_for PassesOwn.never rfl (pi_tup (pe_tup (pa_cons pe_bl (pa_cons pe_bl pa_nil)))) (pg_name (i := 4) nd rfl (by first | exact Or.inl rfl | exact Or.inr rfl))
      (pss_cons (ps_asg (pe_call cGiven.F (hr.mono (by decide)) (by rfl) cGiven.g cGiven.kp cGiven.b .nil pass0 (pa_cons (pv 1) (pa_cons (pv 4) pa_nil))) (pg_tup (by rfl) (pgs_cons (pg_name (i := 5) nd rfl (by first | exact Or.inl rfl | exact Or.inr rfl)) (pgs_cons (pg_name (i := 6) nd rfl (by first | exact Or.inl rfl | exact Or.inr rfl)) pgs_nil))))
      (pss_cons (ps_for PassesOwn.never rfl (pi_list (pe_op op_cat (pe_callB (call_sortedDI rfl) (by rfl) m.sorted_ (by decide +kernel) (pa_cons (pv 5) pa_nil)) (pe_lst (pa_cons (pe_un un_neg pe_int) (pa_cons (pe_op op_sub (pe_callB (cr_minK rfl) (by rfl) m.min_ (by decide +kernel) (pa_cons (pv 5) pa_nil)) pe_int) (pa_cons (pe_op op_add (pe_callB (cr_maxK rfl) (by rfl) m.max_ (by decide +kernel) (pa_cons (pv 5) pa_nil)) pe_int) pa_nil)))))) (pg_name (i := 7) nd rfl (by first | exact Or.inl rfl | exact Or.inr rfl))
        (pss_cons (ps_set (i := 8) nd rfl (by first | exact Or.inl rfl | exact Or.inr rfl) (pe_dget2 hu (pv 5) (pv 7) pe_int ⟨by rfl, by rfl, by rfl, by rfl⟩))
        (pss_cons (ps_if (pt_cmpR op_ne (pe_call cLeft.F (hr.mono (by decide)) (by rfl) cLeft.g cLeft.kp cLeft.b .nil pass0 (pa_cons (pv 1) (pa_cons (pv 7) pa_nil))) (pv 8) (nomark _))
          (pss_one (ps_ret pe_bl))
          pss_nil)
        (pss_cons (ps_if (pt_cmpR op_ne (pe_callB (cr_any rfl) (by rfl) m.any_ (by decide +kernel) (pa_cons (pe_lc (own := [("_law_first", 9), ("_law_last", 10)]) (g := (gTup K 2 (gCons (gName 9) (gCons (gName 10) gNil)))) rfl nd (pi_list (pv 3)) (blkOk_by (own := [("_law_first", 9), ("_law_last", 10)]) (N := nLaw) (sc := defScope sLaw) (by decide +kernel)) (fun _ _ _ _ _ => (pg_tup (by rfl) (pgs_cons (pg_name (i := 9) nd rfl (by first | exact Or.inl rfl | exact Or.inr rfl)) (pgs_cons (pg_name (i := 10) nd rfl (by first | exact Or.inl rfl | exact Or.inr rfl)) pgs_nil)))) (fun _ _ _ _ _ => pts_nil) (fun _ _ _ _ _ => (pe_chain op_le op_le (pv 9) (pv 7) (pv 10)))) pa_nil)) (pe_cmpR op_eq (pv 8) pe_int (nomark _)) (nomark _))
          (pss_one (ps_ret pe_bl))
          pss_nil)
        (pss_one (ps_if (pt_cmpR op_ne (pe_call cGave.F (hr.mono (by decide)) (by rfl) cGave.g cGave.kp cGave.b .nil pass0 (pa_cons (pv 1) (pa_cons (pv 7) pa_nil))) (pe_dget2 hu (pv 6) (pv 7) pe_int ⟨by rfl, by rfl, by rfl, by rfl⟩) (nomark _))
          (pss_one (ps_ret pe_bl))
          pss_nil))))))
      (pss_one (ps_if (pt_cmpR op_ne (pe_call cAll.F (hr.mono (by decide)) (by rfl) cAll.g cAll.kp cAll.b .nil pass0 (pa_cons (pv 1) pa_nil)) (pe_callB (cr_sum rfl) (by rfl) m.sum_ (by decide +kernel) (pa_cons (pe_lock (pe_lc (own := [("_law_place", 7), ("_law_many", 11)]) (g := (gTup K 2 (gCons (gName 7) (gCons (gName 11) gNil)))) rfl nd (pi_items (pv 6)) (blkOk_by (own := [("_law_place", 7), ("_law_many", 11)]) (N := nLaw) (sc := defScope sLaw) (by decide +kernel)) (fun _ _ _ _ _ => (pg_tup (by rfl) (pgs_cons (pg_name (i := 7) nd rfl (by first | exact Or.inl rfl | exact Or.inr rfl)) (pgs_cons (pg_name (i := 11) nd rfl (by first | exact Or.inl rfl | exact Or.inr rfl)) pgs_nil)))) (fun _ _ _ _ _ => pts_nil) (fun _ _ _ _ _ => (pv 11)))) pa_nil)) (nomark _))
        (pss_one (ps_ret pe_bl))
        pss_nil)))))
    (pss_one (ps_ret pe_bl))))))), ?_⟩
    refine q_asgN (nl_lst na_nil (by simp)) fun hp H1 nhp e1 hhp => ?_
    have hl0 : (ns.map V.int).length = ns.length := List.length_map ..
    refine q_forR (n := min ns.length 5) (ea_cons (ev_is2 (e_min2 (ea_cons (e_lenL (ev_var rfl) (Evl.ex_l e1 ha)) (ea_cons ev_c ea_nil))) (by rw [hl0]; congr 1; split <;> omega)) ea_nil) (by omega)
      (fun i σ H' => ∃ o2, σ = [some (.ref a), some (.ref hp), o2, none, none, none, none, none, none, none, none, none] ∧ Ex H H' ∧ PL H' hp ((List.range i).map (h5 ns)))
      (fun H2 e2 => ⟨_, rfl, e1.trans e2, hhp.mono e2⟩) (fun i σ' H' hi hP => ?_) (fun σ' H' hP => ?_)
    · obtain ⟨o2, rfl, e2, hp2⟩ := hP
      rw [Int.zero_add]
      show tDrop _ _ ([some (.ref a), some (.ref hp), some (.int (i : Int)), none, none, none, none, none, none, none, none, none]) H'
      have c1 : ∀ H3, Ex H' H3 → Ev (tOp (rIxL K) (tVar 0) (tVar 2)) [some (.ref a), some (.ref hp), some (.int (i : Int)), none, none, none, none, none, none, none, none, none] H3 (.int (cellF ns (i : Int))) := fun H3 e3 =>
        ev_op (ev_var rfl) (ev_var rfl) (rv_ixL (ex_l (e2.trans e3) ha) (atI_nat (cell_nat ns _ (by omega))))
      have r0 := Ex.refl H'
      have m5 := Int.emod_nonneg (i : Int) (show (5 : Int) ≠ 0 by decide)
      refine s_appP hp2 (ev_var rfl) (np_pair (p := h5 ns i) (ev_is2 (e_sub (ev_draw (ea_cons (c1 _ r0) (ea_cons (e_add (e_mod (ev_var rfl) ev_c (by decide)) ev_c) (ea_cons ev_c ea_nil))) (by decide)) ev_c) rfl) (ev_is2 (ev_draw (ea_cons (c1 _ r0) (ea_cons (e_add (e_mod (ev_var rfl) ev_c (by decide)) ev_c) (ea_cons ev_c ea_nil))) (by decide)) rfl)) (by rw [List.length_map, List.length_range]; omega) fun H3 vs vs' e3 h3 t3 => ?_
      refine ⟨_, rfl, Ex.mut (e2.trans e3) nhp, vs', upd_same, ?_⟩
      rw [List.range_succ, List.map_append]
      exact t3
    · obtain ⟨o2, rfl, e2, hp2⟩ := hP
      refine q_appP hp2 (ev_var rfl) (np_pair (p := (drawF (cellF ns 0) 6 5, drawF (cellF ns 1) 7 10)) (ev_draw (ea_cons (ev_cell (ea_cons (ev_var rfl) (ea_cons ev_c ea_nil)) (Evl.ex_l e2 ha) (by decide)) (ea_cons ev_c (ea_cons ev_c ea_nil))) (by decide)) (ev_draw (ea_cons (ev_cell (ea_cons (ev_var rfl) (ea_cons ev_c ea_nil)) (Evl.ex_l e2 ha) (by decide)) (ea_cons ev_c (ea_cons ev_c ea_nil))) (by decide))) (by rw [List.length_map, List.length_range]; omega) fun H3 vs vs' e3 h3 t3 => ?_
      have nr := heap2_nr ns
      have hp4 : PL (upd H3 hp (.lst vs')) hp (heap2 ns) := ⟨vs', upd_same, t3⟩
      generalize heap2 ns = hs at *
      generalize upd H3 hp (.lst vs') = H4 at *
      clear e2 hp2 e3 h3 t3
      have hb := nr.hb
      have sz := hb.sz (by decide)
      have hdl := stretches_len hs
      have hhl := hb.len
      refine q_asgS (sl_spread T (sl_of (ev_var rfl) hp4) sz) fun d H5 e5 hd5 => ?_
      have hp5 := hp4.mono e5
      -- in two orders
      refine q_forTm (xs := [.bl true, .bl false]) (ea_cons ev_c (ea_cons ev_c ea_nil)) (by simp)
        (fun t i σ H' => ∃ o4 o5 o6 o7 o8, σ = [some (.ref a), some (.ref hp), o2, some (.ref d), o4, o5, o6, o7, o8, none, none, none] ∧ H' t = some (.tup [.bl true, .bl false]) ∧ Ex H5 H')
        (fun t H6 nt e6 ht => ⟨_, _, _, _, _, rfl, ht, e6⟩) (fun t i σ' H' ⟨_, _, _, _, _, _, h, _⟩ => h) (fun t i y σ' H6 hi hP => ?_) (fun t σ' H6 hP => ?_)
      · obtain ⟨o4, o5, o6, o7, o8, rfl, ht, e6⟩ := hP
        obtain ⟨b, rfl⟩ : ∃ b, y = .bl b := by
          match i, hi with
          | 0, h => exact ⟨true, (Option.some.inj h).symm⟩
          | 1, h => exact ⟨false, (Option.some.inj h).symm⟩
          | i + 2, h => simp at h
        show tSeq _ _ _ ([some (.ref a), some (.ref hp), o2, some (.ref d), some (.bl b), o5, o6, o7, o8, none, none, none]) H6
        refine ⟨_, rfl, _, rfl, hp, hs, b, rfl, hp5.mono e6, nr, fun H7 t7 hd td ps ts e7 ht7 hdk tdk fin => ?_⟩
        refine g_two (K := K) (t := t7) ht7 ?_
        have few := Kn.few fin.np fin.kp
        have fet := Kn.few fin.nt fin.kt
        have ht7 := e7 _ _ ht
        have e57 := e6.trans e7
        refine q_forLI (P := fun z => -100 ≤ z ∧ z ≤ 100) (li_cat (li_sorted (ev_var rfl) hdk (by omega) (fun y hy => by have := fin.kp y hy; omega)) (li_three (wi_of (e_neg ev_c) ⟨by decide, by decide⟩) (wi_sub (wi_min (P := fun z => -16 ≤ z ∧ z ≤ 26) (ev_var rfl) hdk fin.ne (fun y hy => fin.kp y hy)) (fun m hm => by omega)) (wi_add (wi_max (P := fun z => -16 ≤ z ∧ z ≤ 26) (ev_var rfl) hdk fin.ne (fun y hy => fin.kp y hy)) (fun m hm => by omega))) (by decide))
          (fun p ms i σ H' => ∃ o7 o8, σ = [some (.ref a), some (.ref hp), o2, some (.ref d), some (.bl b), some (.ref hd), some (.ref td), o7, o8, none, none, none] ∧ Ex H7 H' ∧ IL H' p ms)
          (fun p ms H8 e8 h _ => ⟨_, _, rfl, e8, h⟩) (fun p ms i σ' H' ⟨_, _, _, _, h⟩ => h) (fun p ms i z σ' H8 hz hP => ?_) (fun p ms σ' H8 hP => ?_)
        · obtain ⟨o7, o8, rfl, e8, hip⟩ := hP
          have zb : Bd 900 z := by
            unfold Bd
            have : 2 ^ 10 ≤ 2 ^ 900 := Nat.pow_le_pow_right (by decide) (by decide)
            omega
          show tSeq _ _ _ ([some (.ref a), some (.ref hp), o2, some (.ref d), some (.bl b), some (.ref hd), some (.ref td), some (.int z), o8, none, none, none]) H8
          refine q_asg (e_get (ev_var rfl) (hdk.mono e8) fin.np (ev_var rfl)) fun H9 e9 => ?_
          rw [fin.had]
          have e59 := (e57.trans e8).trans e9
          have hp9 := hp5.mono e59
          have hd9 := hd5.mono e59
          refine q_when (b := false) (et_is (e_nei (ev_left (ea_cons (ev_var rfl) (ea_cons (ev_var rfl) ea_nil)) hp9 sz) (ev_var rfl)) (by unfold hs01; rw [decide_eq_true rfl]; rfl)) (fun z => nomatch z) fun _ H10 e10 => ?_
          refine q_when (b := false) (et_is (et_test (e_neB (e_any (bs := (stretches hs).map fun q => decide (q.1 ≤ z) && decide (z ≤ q.2)) (el_is (lcP_all (g := fun q => .bl (decide (q.1 ≤ z) && decide (z ≤ q.2))) (fun _ _ => rfl) (sl_of (ev_var rfl) (hd9.mono e10)) (by omega) (fun q hq H1 e1 => e_chain (ev_var rfl) (ev_var rfl) (ev_var rfl))) (by rw [List.map_map]; rfl))) (e_eqIV (ev_var rfl) ev_c))) ?_) (fun z => nomatch z) fun _ H11 e11 => ?_
          · rw [show ((stretches hs).map fun q => decide (q.1 ≤ z) && decide (z ≤ q.2)).any id = hasB (stretches hs) z by unfold hasB; rw [List.any_map]; rfl]
            unfold hs01
            cases hasB (stretches hs) z <;> decide
          have e911 := e10.trans e11
          refine s_when (b := false) (et_is (e_nei (ev_gave (ea_cons (ev_var rfl) (ea_cons (ev_var rfl) ea_nil)) (hp9.mono e911) sz zb) (e_get (ev_var rfl) ((tdk.mono (e8.trans e9)).mono e911) fin.nt (ev_var rfl))) (by rw [fin.tm, decide_eq_true rfl]; rfl)) (fun z => nomatch z) fun _ H12 e12 => ⟨_, _, rfl, ((e8.trans e9).trans e911).trans e12, ((e9.trans e911).trans e12) _ _ hip⟩
        · obtain ⟨o7, o8, rfl, e8, hip⟩ := hP
          have e58 := e57.trans e8
          refine s_when (b := false) (et_is (e_nei (ev_all (sl_of (ev_var rfl) (hp5.mono e58)) sz) (e_sum (ns := ts.map (·.2)) (el_is (el_items (fun _ _ => rfl) (fun _ _ => rfl) rfl (tdk.mono e8) (by omega)) (by rw [List.map_map]; rfl)))) ?_) (fun z => nomatch z) fun _ H9 e9 => ⟨_, _, _, _, _, rfl, (e8.trans e9) _ _ ht7, e58.trans e9⟩
          rw [show (ts.map (·.2)).sum = sm (·.2) ts from rfl, fin.all, decide_eq_true rfl]
          rfl
      · obtain ⟨o4, o5, o6, o7, o8, rfl, ht, e6⟩ := hP
        exact k H6
end

end Sp

set_option Elab.async false
set_option linter.all false
set_option maxRecDepth 100000
set_option maxHeartbeats 4000000
namespace Sp
open PySem L2 Mth
open Evl (Ex)
theorem all_mk {l : PySem.W.OpenLaw} {w : World} {K : PySem.W.Frag} {h : Heap} {mg : Str → Option Value} {fa Block_ Spread_ f1 f2 f3 f4 f5 f6 f7 f8 f9 f10 f11 f12 f13 f14 f15 f16 f17 f18 f19 f20 f21 : Addr} (X : K.In h) (G : h.Ns mainGlobals mg) (hfa : mg "law" = some (.ref fa))
    {od1 an1 od2 an2 od3 an3 od4 an4 od5 an5 od6 an6 od7 an7 od8 an8 od9 an9 od10 an10 od11 an11 od12 an12 od13 an13 od14 an14 od15 an15 od16 an16 od17 an17 od18 an18 od19 an19 od20 an20 od21 an21 : Option Addr} {sl1 sl2 sl3 sl4 sl5 sl6 sl7 sl8 sl9 sl10 sl11 sl12 sl13 sl14 sl15 sl16 sl17 sl18 sl19 sl20 sl21 : Array (Option Value)} {oc1 kV1 dc1 pm1 cd1 ct1 oc2 kV2 dc2 pm2 cd2 ct2 oc3 kV3 dc3 pm3 cd3 ct3 oc4 kV4 dc4 pm4 cd4 ct4 oc5 kV5 dc5 pm5 cd5 ct5 oc6 kV6 dc6 pm6 cd6 ct6 oc7 kV7 dc7 pm7 cd7 ct7 oc8 kV8 dc8 pm8 cd8 ct8 oc9 kV9 dc9 pm9 cd9 ct9 oc10 kV10 dc10 pm10 cd10 ct10 oc11 kV11 dc11 pm11 cd11 ct11 oc12 kV12 dc12 pm12 cd12 ct12 oc13 kV13 dc13 pm13 cd13 ct13 oc14 kV14 dc14 pm14 cd14 ct14 oc15 kV15 dc15 pm15 cd15 ct15 oc16 kV16 dc16 pm16 cd16 ct16 oc17 kV17 dc17 pm17 cd17 ct17 oc18 kV18 dc18 pm18 cd18 ct18 oc19 kV19 dc19 pm19 cd19 ct19 oc20 kV20 dc20 pm20 cd20 ct20 oc21 kV21 dc21 pm21 cd21 ct21 : Value}
    (aBlock : PySem.W.nsIn K mainGlobals "Block" = some (some (.ref Block_))) (pgBlock : PySem.W.plainGet K Block_ Str.empty = true) (hdBlock : PySem.W.hasDictIn K Block_ = true) (poBlock : PySem.W.plainOver K Block_ = true) (saBlock : PySem.W.findIn K (.ref Block_) "__setattr__" = some (some (.builtin "object.__setattr__"))) (mkBlock : PySem.W.makesIn K Block_ = true) (kcBlock : PySem.W.keepIn K (.ref Block_) = true)
    (nBlock0 : PySem.W.findIn K (.ref Block_) "many" = some none)
    (nBlock1 : PySem.W.findIn K (.ref Block_) "total" = some none)
    (nBlock2 : PySem.W.findIn K (.ref Block_) "parts" = some none)
    (a1 : PySem.W.findIn K (.ref Block_) "__init__" = some (some (.ref f1))) (i1 : PySem.W.isFn K (.ref f1) = true) (l1 : K.lookup f1 = some ⟨oc1, od1, .func (PySem.W.fnOf "__init__" "Block.__init__" (defArgs sBlockInit) (defBody sBlockInit) (defScope sBlockInit) .none kV1 dc1 pm1 an1 cd1 ct1), sl1⟩) (c1 : PySem.W.codeIn K cd1 "Block.__init__" = true) (k1 : PySem.W.keepIn K (.ref f1) = true)
    (a2 : PySem.W.findIn K (.ref Block_) "begin" = some (some (.ref f2))) (i2 : PySem.W.isFn K (.ref f2) = true) (l2 : K.lookup f2 = some ⟨oc2, od2, .func (PySem.W.fnOf "begin" "Block.begin" (defArgs sBegin) (defBody sBegin) (defScope sBegin) .none kV2 dc2 pm2 an2 cd2 ct2), sl2⟩) (c2 : PySem.W.codeIn K cd2 "Block.begin" = true) (k2 : PySem.W.keepIn K (.ref f2) = true)
    (a3 : PySem.W.findIn K (.ref Block_) "end" = some (some (.ref f3))) (i3 : PySem.W.isFn K (.ref f3) = true) (l3 : K.lookup f3 = some ⟨oc3, od3, .func (PySem.W.fnOf "end" "Block.end" (defArgs sEnd) (defBody sEnd) (defScope sEnd) .none kV3 dc3 pm3 an3 cd3 ct3), sl3⟩) (c3 : PySem.W.codeIn K cd3 "Block.end" = true) (k3 : PySem.W.keepIn K (.ref f3) = true)
    (aSpread : PySem.W.nsIn K mainGlobals "Spread" = some (some (.ref Spread_))) (pgSpread : PySem.W.plainGet K Spread_ Str.empty = true) (hdSpread : PySem.W.hasDictIn K Spread_ = true) (poSpread : PySem.W.plainOver K Spread_ = true) (saSpread : PySem.W.findIn K (.ref Spread_) "__setattr__" = some (some (.builtin "object.__setattr__"))) (mkSpread : PySem.W.makesIn K Spread_ = true) (kcSpread : PySem.W.keepIn K (.ref Spread_) = true)
    (nSpread0 : PySem.W.findIn K (.ref Spread_) "stretches" = some none)
    (a4 : PySem.W.findIn K (.ref Spread_) "__init__" = some (some (.ref f4))) (i4 : PySem.W.isFn K (.ref f4) = true) (l4 : K.lookup f4 = some ⟨oc4, od4, .func (PySem.W.fnOf "__init__" "Spread.__init__" (defArgs sSpreadInit) (defBody sSpreadInit) (defScope sSpreadInit) .none kV4 dc4 pm4 an4 cd4 ct4), sl4⟩) (c4 : PySem.W.codeIn K cd4 "Spread.__init__" = true) (k4 : PySem.W.keepIn K (.ref f4) = true)
    (a5 : PySem.W.nsIn K mainGlobals "is_number" = some (some (.ref f5))) (l5 : K.lookup f5 = some ⟨oc5, od5, .func (PySem.W.fnOf "is_number" "is_number" (defArgs sIsNumber) (defBody sIsNumber) (defScope sIsNumber) .none kV5 dc5 pm5 an5 cd5 ct5), sl5⟩) (c5 : PySem.W.codeIn K cd5 "is_number" = true) (k5 : PySem.W.keepIn K (.ref f5) = true)
    (a6 : PySem.W.nsIn K mainGlobals "is_heap" = some (some (.ref f6))) (l6 : K.lookup f6 = some ⟨oc6, od6, .func (PySem.W.fnOf "is_heap" "is_heap" (defArgs sIsHeap) (defBody sIsHeap) (defScope sIsHeap) .none kV6 dc6 pm6 an6 cd6 ct6), sl6⟩) (c6 : PySem.W.codeIn K cd6 "is_heap" = true) (k6 : PySem.W.keepIn K (.ref f6) = true)
    (a7 : PySem.W.nsIn K mainGlobals "check_heaps" = some (some (.ref f7))) (l7 : K.lookup f7 = some ⟨oc7, od7, .func (PySem.W.fnOf "check_heaps" "check_heaps" (defArgs sCheckHeaps) (defBody sCheckHeaps) (defScope sCheckHeaps) .none kV7 dc7 pm7 an7 cd7 ct7), sl7⟩) (c7 : PySem.W.codeIn K cd7 "check_heaps" = true) (k7 : PySem.W.keepIn K (.ref f7) = true)
    (a8 : PySem.W.nsIn K mainGlobals "check_place" = some (some (.ref f8))) (l8 : K.lookup f8 = some ⟨oc8, od8, .func (PySem.W.fnOf "check_place" "check_place" (defArgs sCheckPlace) (defBody sCheckPlace) (defScope sCheckPlace) .none kV8 dc8 pm8 an8 cd8 ct8), sl8⟩) (c8 : PySem.W.codeIn K cd8 "check_place" = true) (k8 : PySem.W.keepIn K (.ref f8) = true)
    (a9 : PySem.W.nsIn K mainGlobals "rest_blocks" = some (some (.ref f9))) (l9 : K.lookup f9 = some ⟨oc9, od9, .func (PySem.W.fnOf "rest_blocks" "rest_blocks" (defArgs sRestBlocks) (defBody sRestBlocks) (defScope sRestBlocks) .none kV9 dc9 pm9 an9 cd9 ct9), sl9⟩) (c9 : PySem.W.codeIn K cd9 "rest_blocks" = true) (k9 : PySem.W.keepIn K (.ref f9) = true)
    (a10 : PySem.W.nsIn K mainGlobals "rest_stretches" = some (some (.ref f10))) (l10 : K.lookup f10 = some ⟨oc10, od10, .func (PySem.W.fnOf "rest_stretches" "rest_stretches" (defArgs sRestStretches) (defBody sRestStretches) (defScope sRestStretches) .none kV10 dc10 pm10 an10 cd10 ct10), sl10⟩) (c10 : PySem.W.codeIn K cd10 "rest_stretches" = true) (k10 : PySem.W.keepIn K (.ref f10) = true)
    (a11 : PySem.W.nsIn K mainGlobals "spread" = some (some (.ref f11))) (l11 : K.lookup f11 = some ⟨oc11, od11, .func (PySem.W.fnOf "spread" "spread" (defArgs sSpread) (defBody sSpread) (defScope sSpread) .none kV11 dc11 pm11 an11 cd11 ct11), sl11⟩) (c11 : PySem.W.codeIn K cd11 "spread" = true) (k11 : PySem.W.keepIn K (.ref f11) = true)
    (a12 : PySem.W.nsIn K mainGlobals "left" = some (some (.ref f12))) (l12 : K.lookup f12 = some ⟨oc12, od12, .func (PySem.W.fnOf "left" "left" (defArgs sLeft) (defBody sLeft) (defScope sLeft) .none kV12 dc12 pm12 an12 cd12 ct12), sl12⟩) (c12 : PySem.W.codeIn K cd12 "left" = true) (k12 : PySem.W.keepIn K (.ref f12) = true)
    (a13 : PySem.W.nsIn K mainGlobals "gave" = some (some (.ref f13))) (l13 : K.lookup f13 = some ⟨oc13, od13, .func (PySem.W.fnOf "gave" "gave" (defArgs sGave) (defBody sGave) (defScope sGave) .none kV13 dc13 pm13 an13 cd13 ct13), sl13⟩) (c13 : PySem.W.codeIn K cd13 "gave" = true) (k13 : PySem.W.keepIn K (.ref f13) = true)
    (a14 : PySem.W.nsIn K mainGlobals "all_gave" = some (some (.ref f14))) (l14 : K.lookup f14 = some ⟨oc14, od14, .func (PySem.W.fnOf "all_gave" "all_gave" (defArgs sAllGave) (defBody sAllGave) (defScope sAllGave) .none kV14 dc14 pm14 an14 cd14 ct14), sl14⟩) (c14 : PySem.W.codeIn K cd14 "all_gave" = true) (k14 : PySem.W.keepIn K (.ref f14) = true)
    (a15 : PySem.W.nsIn K mainGlobals "way_to" = some (some (.ref f15))) (l15 : K.lookup f15 = some ⟨oc15, od15, .func (PySem.W.fnOf "way_to" "way_to" (defArgs sWayTo) (defBody sWayTo) (defScope sWayTo) .none kV15 dc15 pm15 an15 cd15 ct15), sl15⟩) (c15 : PySem.W.codeIn K cd15 "way_to" = true) (k15 : PySem.W.keepIn K (.ref f15) = true)
    (a16 : PySem.W.nsIn K mainGlobals "squares" = some (some (.ref f16))) (l16 : K.lookup f16 = some ⟨oc16, od16, .func (PySem.W.fnOf "squares" "squares" (defArgs sSquares) (defBody sSquares) (defScope sSquares) .none kV16 dc16 pm16 an16 cd16 ct16), sl16⟩) (c16 : PySem.W.codeIn K cd16 "squares" = true) (k16 : PySem.W.keepIn K (.ref f16) = true)
    (a17 : PySem.W.nsIn K mainGlobals "squares_to" = some (some (.ref f17))) (l17 : K.lookup f17 = some ⟨oc17, od17, .func (PySem.W.fnOf "squares_to" "squares_to" (defArgs sSquaresTo) (defBody sSquaresTo) (defScope sSquaresTo) .none kV17 dc17 pm17 an17 cd17 ct17), sl17⟩) (c17 : PySem.W.codeIn K cd17 "squares_to" = true) (k17 : PySem.W.keepIn K (.ref f17) = true)
    (a18 : PySem.W.nsIn K mainGlobals "_law_cell_at" = some (some (.ref f18))) (l18 : K.lookup f18 = some ⟨oc18, od18, .func (PySem.W.fnOf "_law_cell_at" "_law_cell_at" (defArgs sLawCellAt) (defBody sLawCellAt) (defScope sLawCellAt) .none kV18 dc18 pm18 an18 cd18 ct18), sl18⟩) (c18 : PySem.W.codeIn K cd18 "_law_cell_at" = true) (k18 : PySem.W.keepIn K (.ref f18) = true)
    (a19 : PySem.W.nsIn K mainGlobals "_law_draw" = some (some (.ref f19))) (l19 : K.lookup f19 = some ⟨oc19, od19, .func (PySem.W.fnOf "_law_draw" "_law_draw" (defArgs sLawDraw) (defBody sLawDraw) (defScope sLawDraw) .none kV19 dc19 pm19 an19 cd19 ct19), sl19⟩) (c19 : PySem.W.codeIn K cd19 "_law_draw" = true) (k19 : PySem.W.keepIn K (.ref f19) = true)
    (a20 : PySem.W.nsIn K mainGlobals "_law_given" = some (some (.ref f20))) (l20 : K.lookup f20 = some ⟨oc20, od20, .func (PySem.W.fnOf "_law_given" "_law_given" (defArgs sLawGiven) (defBody sLawGiven) (defScope sLawGiven) .none kV20 dc20 pm20 an20 cd20 ct20), sl20⟩) (c20 : PySem.W.codeIn K cd20 "_law_given" = true) (k20 : PySem.W.keepIn K (.ref f20) = true)
    (a21 : PySem.W.nsIn K mainGlobals "law" = some (some (.ref f21))) (l21 : K.lookup f21 = some ⟨oc21, od21, .func (PySem.W.fnOf "law" "law" (defArgs sLaw) (defBody sLaw) (defScope sLaw) .none kV21 dc21 pm21 an21 cd21 ct21), sl21⟩) (c21 : PySem.W.codeIn K cd21 "law" = true) (k21 : PySem.W.keepIn K (.ref f21) = true)
    (z_isinstance : PySem.W.nsIn K mainGlobals "isinstance" = some none)
    (z_int : PySem.W.nsIn K mainGlobals "int" = some none)
    (z_bool : PySem.W.nsIn K mainGlobals "bool" = some none)
    (z_tuple : PySem.W.nsIn K mainGlobals "tuple" = some none)
    (z_list : PySem.W.nsIn K mainGlobals "list" = some none)
    (z_len : PySem.W.nsIn K mainGlobals "len" = some none)
    (z_sorted : PySem.W.nsIn K mainGlobals "sorted" = some none)
    (z_range : PySem.W.nsIn K mainGlobals "range" = some none)
    (z_sum : PySem.W.nsIn K mainGlobals "sum" = some none)
    (z_min : PySem.W.nsIn K mainGlobals "min" = some none)
    (z_max : PySem.W.nsIn K mainGlobals "max" = some none)
    (z_any : PySem.W.nsIn K mainGlobals "any" = some none)
    (z_all : PySem.W.nsIn K mainGlobals "all" = some none)
    (z_abs : PySem.W.nsIn K mainGlobals "abs" = some none)
    (z_str : PySem.W.nsIn K mainGlobals "str" = some none) :
    ∃ fd : FuncData, (∀ (s : Shared) (v : Value), BindsTo s fd ⟨[v], []⟩ [("_law_script", v)]) ∧ ∀ base : Heap, K.In base → base.Ns mainGlobals mg → FnOk l.prog w K mg base CX0 6 fa fd ["_law_script"] (spLaw K) := by
  have e := hfa.symm.trans (PySem.W.mg_of X G a21)
  cases e
  have m : Ms mg := ⟨PySem.W.mg_none_of X G z_isinstance, PySem.W.mg_none_of X G z_int, PySem.W.mg_none_of X G z_bool, PySem.W.mg_none_of X G z_tuple, PySem.W.mg_none_of X G z_list, PySem.W.mg_none_of X G z_len, PySem.W.mg_none_of X G z_sorted, PySem.W.mg_none_of X G z_range, PySem.W.mg_none_of X G z_sum, PySem.W.mg_none_of X G z_min, PySem.W.mg_none_of X G z_max, PySem.W.mg_none_of X G z_any, PySem.W.mg_none_of X G z_all, PySem.W.mg_none_of X G z_abs, PySem.W.mg_none_of X G z_str⟩
  have clBlock : Cls K Block_ := ⟨pgBlock, hdBlock, poBlock, saBlock⟩
  have gBlock := PySem.W.mg_of X G aBlock
  have clSpread : Cls K Spread_ := ⟨pgSpread, hdSpread, poSpread, saSpread⟩
  have gSpread := PySem.W.mg_of X G aSpread
  have F1 := fun_mk (st := sBlockInit) l1 c1 k1
  have b1 := F1.binds (ps := ["self", "many", "total"]) fun _ _ _ _ _ _ us hl => match us, hl with | [_, _, _], _ => rfl
  have F2 := fun_mk (st := sBegin) l2 c2 k2
  have b2 := F2.binds (ps := ["self"]) fun _ _ _ _ _ _ us hl => match us, hl with | [_], _ => rfl
  have F3 := fun_mk (st := sEnd) l3 c3 k3
  have b3 := F3.binds (ps := ["self"]) fun _ _ _ _ _ _ us hl => match us, hl with | [_], _ => rfl
  have F4 := fun_mk (st := sSpreadInit) l4 c4 k4
  have b4 := F4.binds (ps := ["self", "stretches"]) fun _ _ _ _ _ _ us hl => match us, hl with | [_, _], _ => rfl
  have F5 := fun_mk (st := sIsNumber) l5 c5 k5
  have b5 := F5.binds (ps := ["value"]) fun _ _ _ _ _ _ us hl => match us, hl with | [_], _ => rfl
  have F6 := fun_mk (st := sIsHeap) l6 c6 k6
  have b6 := F6.binds (ps := ["value"]) fun _ _ _ _ _ _ us hl => match us, hl with | [_], _ => rfl
  have F7 := fun_mk (st := sCheckHeaps) l7 c7 k7
  have b7 := F7.binds (ps := ["heaps"]) fun _ _ _ _ _ _ us hl => match us, hl with | [_], _ => rfl
  have F8 := fun_mk (st := sCheckPlace) l8 c8 k8
  have b8 := F8.binds (ps := ["place"]) fun _ _ _ _ _ _ us hl => match us, hl with | [_], _ => rfl
  have F9 := fun_mk (st := sRestBlocks) l9 c9 k9
  have b9 := F9.binds (ps := ["heaps"]) fun _ _ _ _ _ _ us hl => match us, hl with | [_], _ => rfl
  have F10 := fun_mk (st := sRestStretches) l10 c10 k10
  have b10 := F10.binds (ps := ["heaps"]) fun _ _ _ _ _ _ us hl => match us, hl with | [_], _ => rfl
  have F11 := fun_mk (st := sSpread) l11 c11 k11
  have b11 := F11.binds (ps := ["heaps"]) fun _ _ _ _ _ _ us hl => match us, hl with | [_], _ => rfl
  have F12 := fun_mk (st := sLeft) l12 c12 k12
  have b12 := F12.binds (ps := ["heaps", "place"]) fun _ _ _ _ _ _ us hl => match us, hl with | [_, _], _ => rfl
  have F13 := fun_mk (st := sGave) l13 c13 k13
  have b13 := F13.binds (ps := ["heaps", "place"]) fun _ _ _ _ _ _ us hl => match us, hl with | [_, _], _ => rfl
  have F14 := fun_mk (st := sAllGave) l14 c14 k14
  have b14 := F14.binds (ps := ["heaps"]) fun _ _ _ _ _ _ us hl => match us, hl with | [_], _ => rfl
  have F15 := fun_mk (st := sWayTo) l15 c15 k15
  have b15 := F15.binds (ps := ["place", "first", "last"]) fun _ _ _ _ _ _ us hl => match us, hl with | [_, _, _], _ => rfl
  have F16 := fun_mk (st := sSquares) l16 c16 k16
  have b16 := F16.binds (ps := ["first", "last"]) fun _ _ _ _ _ _ us hl => match us, hl with | [_, _], _ => rfl
  have F17 := fun_mk (st := sSquaresTo) l17 c17 k17
  have b17 := F17.binds (ps := ["last"]) fun _ _ _ _ _ _ us hl => match us, hl with | [_], _ => rfl
  have F18 := fun_mk (st := sLawCellAt) l18 c18 k18
  have b18 := F18.binds (ps := ["_law_script", "_law_k"]) fun _ _ _ _ _ _ us hl => match us, hl with | [_, _], _ => rfl
  have F19 := fun_mk (st := sLawDraw) l19 c19 k19
  have b19 := F19.binds (ps := ["_law_cell", "_law_k", "_law_many"]) fun _ _ _ _ _ _ us hl => match us, hl with | [_, _, _], _ => rfl
  have F20 := fun_mk (st := sLawGiven) l20 c20 k20
  have b20 := F20.binds (ps := ["_law_heaps", "_law_forth"]) fun _ _ _ _ _ _ us hl => match us, hl with | [_, _], _ => rfl
  have F21 := fun_mk (st := sLaw) l21 c21 k21
  refine ⟨PySem.W.fnOf "law" "law" (defArgs sLaw) (defBody sLaw) (defScope sLaw) .none kV21 dc21 pm21 an21 cd21 ct21, fun s v => .of_eq rfl, fun base _ _ => ?_⟩
  have T : BTxt K mg Block_ := ⟨clBlock, nBlock0, nBlock1, nBlock2, gBlock⟩
  have TS : STxt K Spread_ := ⟨clSpread, nSpread0⟩
  have N : Cl l.prog w K mg base "is_number" 1 ["value"] spIsNumber _ _ := ⟨okIsNumber F5 m.isinstance_ m.int_ m.bool_, PySem.W.mg_of X G a5, k5, b5⟩
  have HH : Cl l.prog w K mg base "is_heap" 2 ["value"] spIsHeap _ _ := ⟨okIsHeap F6 N m.isinstance_ m.tuple_ m.len_, PySem.W.mg_of X G a6, k6, b6⟩
  have CH : Cl l.prog w K mg base "check_heaps" 3 ["heaps"] spCheckHeaps _ _ := ⟨okCheckHeaps F7 HH m.isinstance_ m.list_, PySem.W.mg_of X G a7, k7, b7⟩
  have MI : Mr l.prog w K mg base "Block" Block_ 1 ["self", "many", "total"] (spBlockInit Block_) _ _ := ⟨okBlockInit F1 T, ⟨mkBlock, a1, i1, kcBlock⟩, b1, gBlock⟩
  have MB : Md l.prog w K mg base Block_ "begin" 1 ["self"] (spBegin Block_) _ _ := ⟨okBegin F2 T, ⟨a2, i2, k2⟩, b2, clBlock⟩
  have ME : Md l.prog w K mg base Block_ "end" 1 ["self"] (spEnd Block_) _ _ := ⟨okEnd F3 T, ⟨a3, i3, k3⟩, b3, clBlock⟩
  have RBl : Cl l.prog w K mg base "rest_blocks" 3 ["heaps"] (spRestBlocks Block_) _ _ := ⟨okRestBlocks F9 T MI MB ME m.sorted_, PySem.W.mg_of X G a9, k9, b9⟩
  have RS : Cl l.prog w K mg base "rest_stretches" 4 ["heaps"] spRest _ _ := ⟨okRest F10 T RBl, PySem.W.mg_of X G a10, k10, b10⟩
  have SI : Mr l.prog w K mg base "Spread" Spread_ 1 ["self", "stretches"] (spSpreadInit Spread_) _ _ := ⟨okSpreadInit F4 TS m, ⟨mkSpread, a4, i4, kcSpread⟩, b4, gSpread⟩
  have SP : Cl l.prog w K mg base "spread" 5 ["heaps"] (spSpread Spread_) _ _ := ⟨okSpread F11 CH RS SI, PySem.W.mg_of X G a11, k11, b11⟩
  have LC : Cl l.prog w K mg base "_law_cell_at" 1 ["_law_script", "_law_k"] (spCellAt K) _ _ := ⟨okCellAt F18 m, PySem.W.mg_of X G a18, k18, b18⟩
  have LD : Cl l.prog w K mg base "_law_draw" 1 ["_law_cell", "_law_k", "_law_many"] spDraw _ _ := ⟨okDraw F19, PySem.W.mg_of X G a19, k19, b19⟩
  have PLc : Cl l.prog w K mg base "check_place" 2 ["place"] spPlace _ _ := ⟨okPlace F8 N, PySem.W.mg_of X G a8, k8, b8⟩
  have LF : Cl l.prog w K mg base "left" 5 ["heaps", "place"] spLeft _ _ := ⟨okLeft F12 CH PLc RS, PySem.W.mg_of X G a12, k12, b12⟩
  have WY : Cl l.prog w K mg base "way_to" 1 ["place", "first", "last"] spWay _ _ := ⟨okWay F15 m, PySem.W.mg_of X G a15, k15, b15⟩
  have SQT : Cl l.prog w K mg base "squares_to" 1 ["last"] spSqt _ _ := ⟨okSqt F17, PySem.W.mg_of X G a17, k17, b17⟩
  have SQS : Cl l.prog w K mg base "squares" 2 ["first", "last"] spSqs _ _ := ⟨okSqs F16 SQT, PySem.W.mg_of X G a16, k16, b16⟩
  have GV : Cl l.prog w K mg base "gave" 5 ["heaps", "place"] spGave _ _ := ⟨okGave F13 m CH PLc RS WY, PySem.W.mg_of X G a13, k13, b13⟩
  have AG : Cl l.prog w K mg base "all_gave" 5 ["heaps"] spAll _ _ := ⟨okAll F14 m CH RS SQS, PySem.W.mg_of X G a14, k14, b14⟩
  have GI : Cl l.prog w K mg base "_law_given" 1 ["_law_heaps", "_law_forth"] spGiven _ _ := ⟨okGiven F20 m, PySem.W.mg_of X G a20, k20, b20⟩
  exact okLaw F21 TS m LC LD GI SP LF GV AG
theorem walk {l : PySem.W.OpenLaw} {q : Program} {loose : List Str} {XP : (Str → Option Value) → Heap → Prop} {YP : World → Heap → Prop} {d : DefRec} {K : Params → PySem.W.Frag} (hn : l.most = some 63) (hdf : d.params.defaults = [])
    (hY : ∀ (w : World) (h : Heap), YP w h → (K w.params).In h)
    (F : ∀ (w : World) (mg : Str → Option Value) (fa : Addr) (h : Heap), (K w.params).In h → h.Ns mainGlobals mg → mg d.name = some (.ref fa) →
      ∃ fd : FuncData, (∀ (s : Shared) (u : Value), BindsTo s fd ⟨[u], []⟩ [("_law_script", u)]) ∧ ∀ base : Heap, (K w.params).In base → base.Ns mainGlobals mg → FnOk l.prog w (K w.params) mg base CX0 6 fa fd ["_law_script"] (spLaw (K w.params))) :
    PySem.W.WalkO q loose XP YP l.row.toRowW d [] (fun f vs => PySem.call f vs) :=
  L2.walk_of (n := 63) (k := 6) (x := "_law_script") (CX := fun _ => CX0) (sp := fun w => spLaw (K w.params)) hn (by decide) hdf ⟨rfl, by decide, by decide⟩ hY F (fun _ _ a ns hl _ hS => ⟨a, ns, rfl, hS, hl, fun _ => rfl⟩) fun _ _ _ _ _ z => z
end Sp

set_option Elab.async false
set_option linter.all false
set_option maxRecDepth 100000
open PySem PySem.W PyProof.Rows in
set_option maxRecDepth 100000 in
set_option maxHeartbeats 0 in
theorem PySem.Challenge.cw_spreadrow_k02_whole_step_by_step_holds : PySem.Challenge.rw_spreadrow_k02_whole_step_by_step.Holds := by
  w_on; o_law; k_head; (case hw => w_witness2)
  k_fill
  refine Sp.walk (l := PySem.Challenge.rw_spreadrow_k02_whole_step_by_step) rfl rfl (fun w h Y => PySem.W.kIn_of Y) ?F
  case F =>
    intro w mg fa h KX G hmg
    refine' Sp.all_mk KX G hmg ?aBlock ?pgBlock ?hdBlock ?poBlock ?saBlock ?mkBlock ?kcBlock ?nBlock0 ?nBlock1 ?nBlock2 ?a1 ?i1 ?l1 ?c1 ?k1 ?a2 ?i2 ?l2 ?c2 ?k2 ?a3 ?i3 ?l3 ?c3 ?k3 ?aSpread ?pgSpread ?hdSpread ?poSpread ?saSpread ?mkSpread ?kcSpread ?nSpread0 ?a4 ?i4 ?l4 ?c4 ?k4 ?a5 ?l5 ?c5 ?k5 ?a6 ?l6 ?c6 ?k6 ?a7 ?l7 ?c7 ?k7 ?a8 ?l8 ?c8 ?k8 ?a9 ?l9 ?c9 ?k9 ?a10 ?l10 ?c10 ?k10 ?a11 ?l11 ?c11 ?k11 ?a12 ?l12 ?c12 ?k12 ?a13 ?l13 ?c13 ?k13 ?a14 ?l14 ?c14 ?k14 ?a15 ?l15 ?c15 ?k15 ?a16 ?l16 ?c16 ?k16 ?a17 ?l17 ?c17 ?k17 ?a18 ?l18 ?c18 ?k18 ?a19 ?l19 ?c19 ?k19 ?a20 ?l20 ?c20 ?k20 ?a21 ?l21 ?c21 ?k21 ?z_isinstance ?z_int ?z_bool ?z_tuple ?z_list ?z_len ?z_sorted ?z_range ?z_sum ?z_min ?z_max ?z_any ?z_all ?z_abs ?z_str
    (case aBlock => first | k_is | rfl)
    (case pgBlock => first | k_is | rfl)
    (case hdBlock => first | k_is | rfl)
    (case poBlock => first | k_is | rfl)
    (case saBlock => first | k_is | rfl)
    (case mkBlock => first | k_is | rfl)
    (case kcBlock => first | k_is | rfl)
    (case nBlock0 => first | k_is | rfl)
    (case nBlock1 => first | k_is | rfl)
    (case nBlock2 => first | k_is | rfl)
    (case a1 => first | k_is | rfl)
    (case i1 => first | k_is | rfl)
    (case l1 => first | k_is | rfl)
    (case c1 => first | k_is | rfl)
    (case k1 => first | k_is | rfl)
    (case a2 => first | k_is | rfl)
    (case i2 => first | k_is | rfl)
    (case l2 => first | k_is | rfl)
    (case c2 => first | k_is | rfl)
    (case k2 => first | k_is | rfl)
    (case a3 => first | k_is | rfl)
    (case i3 => first | k_is | rfl)
    (case l3 => first | k_is | rfl)
    (case c3 => first | k_is | rfl)
    (case k3 => first | k_is | rfl)
    (case aSpread => first | k_is | rfl)
    (case pgSpread => first | k_is | rfl)
    (case hdSpread => first | k_is | rfl)
    (case poSpread => first | k_is | rfl)
    (case saSpread => first | k_is | rfl)
    (case mkSpread => first | k_is | rfl)
    (case kcSpread => first | k_is | rfl)
    (case nSpread0 => first | k_is | rfl)
    (case a4 => first | k_is | rfl)
    (case i4 => first | k_is | rfl)
    (case l4 => first | k_is | rfl)
    (case c4 => first | k_is | rfl)
    (case k4 => first | k_is | rfl)
    (case a5 => first | k_is | rfl)
    (case l5 => first | k_is | rfl)
    (case c5 => first | k_is | rfl)
    (case k5 => first | k_is | rfl)
    (case a6 => first | k_is | rfl)
    (case l6 => first | k_is | rfl)
    (case c6 => first | k_is | rfl)
    (case k6 => first | k_is | rfl)
    (case a7 => first | k_is | rfl)
    (case l7 => first | k_is | rfl)
    (case c7 => first | k_is | rfl)
    (case k7 => first | k_is | rfl)
    (case a8 => first | k_is | rfl)
    (case l8 => first | k_is | rfl)
    (case c8 => first | k_is | rfl)
    (case k8 => first | k_is | rfl)
    (case a9 => first | k_is | rfl)
    (case l9 => first | k_is | rfl)
    (case c9 => first | k_is | rfl)
    (case k9 => first | k_is | rfl)
    (case a10 => first | k_is | rfl)
    (case l10 => first | k_is | rfl)
    (case c10 => first | k_is | rfl)
    (case k10 => first | k_is | rfl)
    (case a11 => first | k_is | rfl)
    (case l11 => first | k_is | rfl)
    (case c11 => first | k_is | rfl)
    (case k11 => first | k_is | rfl)
    (case a12 => first | k_is | rfl)
    (case l12 => first | k_is | rfl)
    (case c12 => first | k_is | rfl)
    (case k12 => first | k_is | rfl)
    (case a13 => first | k_is | rfl)
    (case l13 => first | k_is | rfl)
    (case c13 => first | k_is | rfl)
    (case k13 => first | k_is | rfl)
    (case a14 => first | k_is | rfl)
    (case l14 => first | k_is | rfl)
    (case c14 => first | k_is | rfl)
    (case k14 => first | k_is | rfl)
    (case a15 => first | k_is | rfl)
    (case l15 => first | k_is | rfl)
    (case c15 => first | k_is | rfl)
    (case k15 => first | k_is | rfl)
    (case a16 => first | k_is | rfl)
    (case l16 => first | k_is | rfl)
    (case c16 => first | k_is | rfl)
    (case k16 => first | k_is | rfl)
    (case a17 => first | k_is | rfl)
    (case l17 => first | k_is | rfl)
    (case c17 => first | k_is | rfl)
    (case k17 => first | k_is | rfl)
    (case a18 => first | k_is | rfl)
    (case l18 => first | k_is | rfl)
    (case c18 => first | k_is | rfl)
    (case k18 => first | k_is | rfl)
    (case a19 => first | k_is | rfl)
    (case l19 => first | k_is | rfl)
    (case c19 => first | k_is | rfl)
    (case k19 => first | k_is | rfl)
    (case a20 => first | k_is | rfl)
    (case l20 => first | k_is | rfl)
    (case c20 => first | k_is | rfl)
    (case k20 => first | k_is | rfl)
    (case a21 => first | k_is | rfl)
    (case l21 => first | k_is | rfl)
    (case c21 => first | k_is | rfl)
    (case k21 => first | k_is | rfl)
    (case z_isinstance => first | k_is | rfl)
    (case z_int => first | k_is | rfl)
    (case z_bool => first | k_is | rfl)
    (case z_tuple => first | k_is | rfl)
    (case z_list => first | k_is | rfl)
    (case z_len => first | k_is | rfl)
    (case z_sorted => first | k_is | rfl)
    (case z_range => first | k_is | rfl)
    (case z_sum => first | k_is | rfl)
    (case z_min => first | k_is | rfl)
    (case z_max => first | k_is | rfl)
    (case z_any => first | k_is | rfl)
    (case z_all => first | k_is | rfl)
    (case z_abs => first | k_is | rfl)
    (case z_str => first | k_is | rfl)
#print axioms PySem.Challenge.cw_spreadrow_k02_whole_step_by_step_holds

