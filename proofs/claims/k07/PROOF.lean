import PyProof.Rows.All
import Wide.All
import OpenK.AllK
import Wide.FinOn
import HandS.ForMost
import HandS.Evl
import HandS.Wide
import HandS.IsInst
import HandS.SortRule
import HandS.Steps
import HandS.Flow
import HandS.Style
import KE.Datum
import HandS.TupSets
import HandS.More
import HandS.SetFor
import HandS.ForExc
import HandS.CallLocal
import HandS.ExcIs
import HandS.Conv
import HandS.FStr
import PySem.Challenge.RW_spreadrow_k07_refused
set_option Elab.async false
namespace Mth
abbrev P2 := Int × Int

/-! ### a block: so many, whose places sum to so much -/
def bFirst (b : P2) : Int := (b.2 - b.1 * (b.1 + 1) / 2) / b.1 + 1
def bGap (b : P2) : Int := (b.1 + 1) * bFirst b + b.1 * (b.1 + 1) / 2 - b.2
def bLast (b : P2) : Int := bFirst b + b.1
def bParts (b : P2) : List P2 := if bGap b < bLast b then [(bFirst b, bGap b - 1), (bGap b + 1, bLast b)] else [(bFirst b, bGap b - 1)]
def bEnd (b : P2) : Int := if bGap b < bLast b then bLast b else bGap b - 1
def bAdd (a b : P2) : P2 := (a.1 + b.1, a.2 + b.2)

/-! ### pairs sorted -/
def leP (a b : P2) : Bool := decide (a.1 < b.1) || (decide (a.1 = b.1) && decide (a.2 ≤ b.2))
def insP (x : P2) : List P2 → List P2
  | [] => [x]
  | y :: r => if leP x y then x :: y :: r else y :: insP x r
def sortP : List P2 → List P2
  | [] => []
  | x :: r => insP x (sortP r)
theorem leP_total (a b : P2) : leP a b = true ∨ leP b a = true := by
  unfold leP
  simp only [Bool.or_eq_true, Bool.and_eq_true, decide_eq_true_eq]
  omega
theorem leP_trans {a b c : P2} (h : leP a b = true) (k : leP b c = true) : leP a c = true := by
  unfold leP at *
  simp only [Bool.or_eq_true, Bool.and_eq_true, decide_eq_true_eq] at *
  omega
theorem leP_anti {a b : P2} (h : leP a b = true) (k : leP b a = true) : a = b := by
  unfold leP at *
  simp only [Bool.or_eq_true, Bool.and_eq_true, decide_eq_true_eq] at *
  exact Prod.ext (by omega) (by omega)
theorem insP_perm (x : P2) : ∀ l : List P2, (insP x l).Perm (x :: l)
  | [] => List.Perm.refl _
  | y :: r => by
    unfold insP
    split
    · exact List.Perm.refl _
    · exact ((insP_perm x r).cons y).trans (List.Perm.swap x y r)
theorem sortP_perm : ∀ l : List P2, (sortP l).Perm l
  | [] => List.Perm.refl _
  | x :: r => (insP_perm x (sortP r)).trans ((sortP_perm r).cons x)
def Sd (l : List P2) : Prop := l.Pairwise fun a b => leP a b = true
theorem insP_sd (x : P2) : ∀ l : List P2, Sd l → Sd (insP x l)
  | [], _ => List.pairwise_singleton _ _
  | y :: r, h => by
    unfold insP
    obtain ⟨h1, h2⟩ := List.pairwise_cons.mp h
    split
    · rename_i e
      refine List.pairwise_cons.mpr ⟨fun z hz => ?_, h⟩
      rcases List.mem_cons.mp hz with rfl | hz
      · exact e
      · exact leP_trans e (h1 z hz)
    · rename_i e
      refine List.pairwise_cons.mpr ⟨fun z hz => ?_, insP_sd x r h2⟩
      rcases List.mem_cons.mp ((insP_perm x r).mem_iff.mp hz) with rfl | hz
      · exact (leP_total y z).resolve_right e
      · exact h1 z hz
theorem sortP_sd : ∀ l : List P2, Sd (sortP l)
  | [] => List.Pairwise.nil
  | x :: r => insP_sd x _ (sortP_sd r)
theorem sd_uniq : ∀ {l m : List P2}, Sd l → Sd m → l.Perm m → l = m
  | [], m, _, _, p => p.nil_eq
  | x :: l, [], _, _, p => absurd p.length_eq (by simp)
  | x :: l, y :: m, hl, hm, p => by
    obtain ⟨a1, a2⟩ := List.pairwise_cons.mp hl
    obtain ⟨b1, b2⟩ := List.pairwise_cons.mp hm
    have e : x = y := by
      rcases List.mem_cons.mp (p.mem_iff.mp List.mem_cons_self) with e | hx
      · exact e
      · rcases List.mem_cons.mp (p.mem_iff.mpr (List.mem_cons_self (a := y) (l := m))) with e | hy
        · exact e.symm
        · exact leP_anti (a1 y hy) (b1 x hx)
    subst e
    rw [sd_uniq a2 b2 p.cons_inv]
theorem sortP_eq {l m : List P2} (p : m.Perm l) (s : Sd m) : m = sortP l := sd_uniq s (sortP_sd l) (p.trans (sortP_perm l).symm)
theorem sortP_congr {l m : List P2} (p : l.Perm m) : sortP l = sortP m := sortP_eq ((sortP_perm l).trans p) (sortP_sd l)

/-! ### the stack of blocks (top first), the stretches (last first) -/
def push : List P2 → P2 → List P2
  | [], b => [b]
  | a :: r, b => if bFirst b ≤ bEnd a then push r (bAdd a b) else b :: a :: r
def pushH (st : List P2) (h : P2) : List P2 := if 0 < h.2 then push st (h.2, h.2 * h.1) else st
def stack (hs : List P2) : List P2 := (sortP hs).foldl pushH []
def join1 : List P2 → P2 → List P2
  | [], p => [p]
  | q :: r, p => if q.2 + 1 = p.1 then (q.1, p.2) :: r else p :: q :: r
def joins (ps : List P2) : List P2 := ps.foldl join1 []
def stretches (hs : List P2) : List P2 := (joins ((stack hs).reverse.flatMap bParts)).reverse

theorem stretches_congr {l m : List P2} (p : l.Perm m) : stretches l = stretches m := by
  unfold stretches stack
  rw [sortP_congr p]

theorem tri_even (n : Int) : 2 * (n * (n + 1) / 2) = n * (n + 1) := by
  have h : n * (n + 1) % 2 = 0 := by
    have : n % 2 = 0 ∨ n % 2 = 1 := by omega
    rcases this with h | h
    · rw [Int.mul_emod, h]; simp
    · have h2 : (n + 1) % 2 = 0 := by omega
      rw [Int.mul_emod, h2]; simp
  omega

theorem bGap_bounds {b : P2} (h : 0 < b.1) : bFirst b < bGap b ∧ bGap b ≤ bLast b := by
  obtain ⟨n, t⟩ := b
  simp only [bGap, bFirst, bLast] at *
  have e := tri_even n
  generalize n * (n + 1) / 2 = s at *
  have h1 := Int.mul_ediv_add_emod (t - s) n
  have h2 := Int.emod_nonneg (t - s) (show n ≠ 0 by omega)
  have h3 := Int.emod_lt_of_pos (t - s) h
  generalize (t - s) / n = q at *
  generalize (t - s) % n = r at *
  have : (n + 1) * (q + 1) = n * q + n + q + 1 := by grind
  constructor <;> omega
/-- what a block is, by its first place and its gap -/
structure Is (b : P2) (f g : Int) : Prop where
  pos : 0 < b.1
  lo : f < g
  hi : g ≤ f + b.1
  sum : 2 * b.2 = 2 * (b.1 + 1) * f + b.1 * (b.1 + 1) - 2 * g
theorem is_of {b : P2} (h : 0 < b.1) : Is b (bFirst b) (bGap b) := by
  obtain ⟨h1, h2⟩ := bGap_bounds h
  refine ⟨h, h1, h2, ?_⟩
  have e := tri_even b.1
  unfold bGap
  generalize b.1 * (b.1 + 1) / 2 = s at *
  grind
theorem Is.uniq {b : P2} {f g : Int} (h : Is b f g) : bFirst b = f ∧ bGap b = g := by
  obtain ⟨hp, l1, h1, s1⟩ := h
  obtain ⟨_, l2, h2, s2⟩ := is_of hp
  generalize bFirst b = f2 at *
  generalize bGap b = g2 at *
  obtain ⟨n, t⟩ := b
  simp only at *
  have e : n * (f2 - f) + (f2 - f) = g2 - g := by grind
  have e2 : f2 = f := by
    rcases Int.lt_trichotomy f2 f with q | q | q
    · have : n * (f2 - f) ≤ n * (-1) := Int.mul_le_mul_of_nonneg_left (by omega) (by omega)
      omega
    · exact q
    · have : n * 1 ≤ n * (f2 - f) := Int.mul_le_mul_of_nonneg_left (by omega) (by omega)
      omega
  subst e2
  refine ⟨rfl, ?_⟩
  have : n * (f2 - f2) = 0 := by simp
  omega
end Mth

set_option Elab.async false
namespace Mth
/-! ### sums over places side by side -/
def S (φ : Int → Int) (f : Int) : Nat → Int
  | 0 => 0
  | m + 1 => S φ f m + φ (f + m)
theorem S_left (φ : Int → Int) (f : Int) : ∀ m : Nat, S φ f (m + 1) = φ f + S φ (f + 1) m
  | 0 => by simp [S]
  | m + 1 => by
    show S φ f (m + 1) + φ (f + (m + 1 : Nat)) = φ f + (S φ (f + 1) m + φ (f + 1 + m))
    rw [S_left φ f m]
    have e : f + ((m + 1 : Nat) : Int) = f + 1 + m := by omega
    rw [e]
    omega
theorem S_add (φ : Int → Int) (f : Int) (m : Nat) : ∀ k : Nat, S φ f (m + k) = S φ f m + S φ (f + m) k
  | 0 => by simp [S]
  | k + 1 => by
    show S φ f (m + k) + φ (f + (m + k : Nat)) = S φ f m + (S φ (f + m) k + φ (f + m + k))
    rw [S_add φ f m k]
    have e : f + ((m + k : Nat) : Int) = f + m + k := by omega
    rw [e]
    omega
theorem S_congr {φ ψ : Int → Int} {f : Int} : ∀ {m : Nat}, (∀ x, f ≤ x → x < f + m → φ x = ψ x) → S φ f m = S ψ f m
  | 0, _ => rfl
  | m + 1, h => by
    show S φ f m + φ (f + m) = S ψ f m + ψ (f + m)
    rw [S_congr fun x a b => h x a (by omega), h (f + m) (by omega) (by omega)]
/-- n + 1 places from f on but g -/
def T (φ : Int → Int) (n f g : Int) : Int := S φ f (n + 1).toNat - φ g
theorem S_one (f : Int) : ∀ m : Nat, S (fun _ => 1) f m = m
  | 0 => rfl
  | m + 1 => by
    show S (fun _ => 1) f m + 1 = _
    rw [S_one f m]
    omega
theorem S_id (f : Int) : ∀ m : Nat, 2 * S (fun x => x) f m = m * (2 * f + m - 1)
  | 0 => by simp [S]
  | m + 1 => by
    show 2 * (S (fun x => x) f m + (f + m)) = _
    have := S_id f m
    have e : ((m + 1 : Nat) : Int) = m + 1 := by omega
    rw [e]
    grind
/-- what lies left of p, and how far -/
def ph (p x : Int) : Int := if x < p then p - x else 0
def Ph (p : Int) : Int → Int := fun x => ph p x
theorem ph4 {p a d x y : Int} (h1 : a ≤ x) (h2 : a ≤ y) (h : x + y = a + d) : ph p x + ph p y ≤ ph p a + ph p d := by
  unfold ph
  repeat' split
  all_goals omega

def BT (φ : Int → Int) (b : P2) : Int := T φ b.1 (bFirst b) (bGap b)
theorem BT_is {φ : Int → Int} {b : P2} {f g : Int} (h : Is b f g) : BT φ b = T φ b.1 f g := by
  obtain ⟨e1, e2⟩ := h.uniq
  unfold BT
  rw [e1, e2]
theorem toNat_succ {n : Int} (h : 0 ≤ n) : (n + 1).toNat = n.toNat + 1 := by omega

/-- one more put at y, on the block or just right of it -/
theorem add_chip {b : P2} {f g y : Int} (h : Is b f g) (h1 : f ≤ y) (h2 : y ≤ f + b.1 + 1) :
    ∃ f' g', Is (b.1 + 1, b.2 + y) f' g' ∧ (y < g → f' = f - 1) ∧ (g ≤ y → f' = f) ∧ (y < g → g < f + b.1 → g' < f' + b.1 + 1) ∧ (g < y → g' < f' + b.1 + 1) ∧ ∀ p, T (Ph p) b.1 f g + ph p y ≤ T (Ph p) (b.1 + 1) f' g' := by
  obtain ⟨hp, lo, hi, sm⟩ := h
  obtain ⟨n, t⟩ := b
  simp only at *
  have hm : (n + 1 + 1).toNat = (n + 1).toNat + 1 := by omega
  rcases Int.lt_trichotomy y g with q | q | q
  · refine ⟨f - 1, f - 1 + (g - y), ⟨by show 0 < n + 1; omega, by omega, by show f - 1 + (g - y) ≤ f - 1 + (n + 1); omega, ?_⟩, fun _ => rfl, fun z => absurd z (by omega), fun _ _ => by omega, fun _ => by omega, fun p => ?_⟩
    · show 2 * (t + y) = _
      grind
    · unfold T
      rw [hm, S_left, show f - 1 + 1 = f by omega]
      have := ph4 (p := p) (a := f - 1) (d := g) (x := y) (y := f - 1 + (g - y)) (by omega) (by omega) (by omega)
      show S (Ph p) f (n + 1).toNat - ph p g + ph p y ≤ ph p (f - 1) + S (Ph p) f (n + 1).toNat - ph p (f - 1 + (g - y))
      omega
  · subst q
    refine ⟨f, f + n + 1, ⟨by show 0 < n + 1; omega, by omega, by show f + n + 1 ≤ f + (n + 1); omega, ?_⟩, fun z => absurd z (by omega), fun _ => rfl, fun z => absurd z (by omega), fun z => absurd z (by omega), fun p => ?_⟩
    · show 2 * (t + y) = _
      grind
    · unfold T
      rw [hm]
      show S (Ph p) f (n + 1).toNat - ph p y + ph p y ≤ S (Ph p) f (n + 1).toNat + ph p (f + (n + 1).toNat) - ph p (f + n + 1)
      rw [show f + ((n + 1).toNat : Int) = f + n + 1 by omega]
      omega
  · refine ⟨f, f + n + 1 - (y - g), ⟨by show 0 < n + 1; omega, by omega, by show f + n + 1 - (y - g) ≤ f + (n + 1); omega, ?_⟩, fun z => absurd z (by omega), fun _ => rfl, fun z => absurd z (by omega), fun _ => by omega, fun p => ?_⟩
    · show 2 * (t + y) = _
      grind
    · unfold T
      rw [hm]
      have := ph4 (p := p) (a := g) (d := f + n + 1) (x := y) (y := f + n + 1 - (y - g)) (by omega) (by omega) (by omega)
      show S (Ph p) f (n + 1).toNat - ph p g + ph p y ≤ S (Ph p) f (n + 1).toNat + ph p (f + (n + 1).toNat) - ph p (f + n + 1 - (y - g))
      rw [show f + ((n + 1).toNat : Int) = f + n + 1 by omega]
      omega
/-- the last place that is taken -/
def en (n f g : Int) : Int := if g < f + n then f + n else g - 1
theorem bEnd_is {b : P2} {f g : Int} (h : Is b f g) : bEnd b = en b.1 f g := by
  obtain ⟨e1, e2⟩ := h.uniq
  unfold bEnd en bLast
  rw [e1, e2]
/-- k more put side by side from y on; w: how far beyond the block y may lie (0 or 1) -/
theorem add_run {w : Int} (hw : w = 0 ∨ w = 1) : ∀ (k : Nat) {b : P2} {f g y : Int}, Is b f g → f ≤ y → y ≤ f + b.1 + w →
    ∃ f' g', Is (b.1 + k, b.2 + S (fun x => x) y k) f' g' ∧ f' ≤ f ∧ en b.1 f g ≤ en (b.1 + k) f' g' ∧ (0 < k → y + k - 1 ≤ en (b.1 + k) f' g') ∧ y + k ≤ f' + (b.1 + k) + w ∧ ∀ p, T (Ph p) b.1 f g + S (Ph p) y k ≤ T (Ph p) (b.1 + k) f' g'
  | 0, b, f, g, y, h, h1, h2 => ⟨f, g, by
      show Is (b.1 + ((0 : Nat) : Int), b.2 + 0) f g
      rw [Int.add_zero, show b.1 + ((0 : Nat) : Int) = b.1 by omega]
      exact h, by omega, by rw [show b.1 + ((0 : Nat) : Int) = b.1 by omega]; omega, fun z => absurd z (by omega), by omega, fun p => by
      rw [show b.1 + ((0 : Nat) : Int) = b.1 by omega]
      simp [S]⟩
  | k + 1, b, f, g, y, h, h1, h2 => by
    obtain ⟨f1, g1, i1, c1, c2, c3, c4, le1⟩ := add_chip h h1 (by omega)
    have nx : y + 1 ≤ f1 + (b.1 + 1) + w := by
      have := h.hi
      rcases Int.lt_or_le y g with q | q
      · have := c1 q; omega
      · have := c2 q; omega
    have lo1 : f1 ≤ y + 1 := by
      rcases Int.lt_or_le y g with q | q
      · have := c1 q; omega
      · have := c2 q; omega
    obtain ⟨f2, g2, i2, a1, a2, a3, a4, le2⟩ := add_run hw k (b := (b.1 + 1, b.2 + y)) i1 lo1 nx
    have ek : b.1 + ((k + 1 : Nat) : Int) = b.1 + 1 + (k : Int) := by omega
    have eS : b.2 + S (fun x => x) y (k + 1) = b.2 + y + S (fun x => x) (y + 1) k := by
      rw [S_left]
      omega
    rw [ek, eS]
    simp only at i2 a1 a2 a3 a4 le2
    have l1 := h.lo
    have l2 := h.hi
    have l3 := i1.lo
    have l4 : g1 ≤ f1 + (b.1 + 1) := i1.hi
    have e1 : en b.1 f g ≤ en (b.1 + 1) f1 g1 := by
      unfold en
      rcases Int.lt_trichotomy y g with q | q | q
      · have := c1 q
        by_cases z : g < f + b.1
        · have := c3 q z
          rw [if_pos z, if_pos (by omega)]; omega
        · rw [if_neg z]
          split <;> omega
      · have := c2 (by omega)
        have hs := i1.sum
        split <;> split <;> first | omega | (have hs := i1.sum; have hs2 := h.sum; simp only at hs; exfalso; grind)
      · have := c2 (by omega)
        have := c4 q
        rw [if_pos (show g1 < f1 + (b.1 + 1) by omega)]
        split <;> omega
    refine ⟨f2, g2, i2, ?_, by omega, fun _ => ?_, by omega, fun p => ?_⟩
    · rcases Int.lt_or_le y g with q | q
      · have := c1 q; omega
      · have := c2 q; omega
    · cases k with
      | zero =>
        -- y itself is reached
        have : y ≤ en (b.1 + 1) f1 g1 := by
          unfold en
          rcases Int.lt_trichotomy y g with q | q | q
          · have := c1 q
            split <;> omega
          · have := c2 (by omega)
            split
            · omega
            · omega
          · have := c2 (by omega)
            have := c4 q
            rw [if_pos (show g1 < f1 + (b.1 + 1) by omega)]
            omega
        have := a2
        omega
      | succ k =>
        have := a3 (by omega)
        omega
    · have x1 := le1 p
      have x2 := le2 p
      rw [S_left]
      show T (Ph p) b.1 f g + (ph p y + S (Ph p) (y + 1) k) ≤ _
      omega

theorem T_split {b : P2} {f g : Int} (h : Is b f g) (φ : Int → Int) : T φ b.1 f g = S φ f (g - f).toNat + S φ (g + 1) (f + b.1 - g).toNat := by
  obtain ⟨hp, lo, hi, _⟩ := h
  unfold T
  have e : (b.1 + 1).toNat = (g - f).toNat + ((f + b.1 - g).toNat + 1) := by omega
  rw [e, S_add, S_left, show f + ((g - f).toNat : Int) = g by omega]
  omega
theorem T_id {b : P2} {f g : Int} (h : Is b f g) : T (fun x => x) b.1 f g = b.2 := by
  obtain ⟨hp, lo, hi, sm⟩ := h
  unfold T
  have := S_id f (b.1 + 1).toNat
  have e : ((b.1 + 1).toNat : Int) = b.1 + 1 := by omega
  rw [e] at this
  grind
theorem T_one {b : P2} {f g : Int} (h : Is b f g) : T (fun _ => 1) b.1 f g = b.1 := by
  have := h.pos
  show S (fun _ => 1) f (b.1 + 1).toNat - 1 = b.1
  rw [S_one]
  omega
theorem bAdd_comm (a b : P2) : bAdd a b = bAdd b a := by
  unfold bAdd
  rw [Int.add_comm a.1, Int.add_comm a.2]
theorem merge_lr {a b : P2} {fa ga fb gb : Int} (ha : Is a fa ga) (hb : Is b fb gb) (h1 : fa ≤ fb) (h2 : fb ≤ en a.1 fa ga) :
    ∃ f g, Is (bAdd a b) f g ∧ f ≤ fa ∧ en a.1 fa ga ≤ en (bAdd a b).1 f g ∧ en b.1 fb gb ≤ en (bAdd a b).1 f g ∧ ∀ p, T (Ph p) a.1 fa ga + T (Ph p) b.1 fb gb ≤ T (Ph p) (bAdd a b).1 f g := by
  have lb := hb.lo
  have ub := hb.hi
  have pb := hb.pos
  have la := ha.lo
  have ua := ha.hi
  have h3 : fb ≤ fa + a.1 + 0 := by
    unfold en at h2
    split at h2 <;> omega
  obtain ⟨f1, g1, i1, a1, a2, a3, a4, le1⟩ := add_run (w := 0) (.inl rfl) (gb - fb).toNat ha h1 h3
  have a3 := a3 (by omega)
  obtain ⟨f2, g2, i2, c1, c2, c3, c4, le2⟩ := add_run (w := 1) (.inr rfl) (fb + b.1 - gb).toNat (y := gb + 1) i1 (by omega) (by show gb + 1 ≤ f1 + (a.1 + ((gb - fb).toNat : Int)) + 1; omega)
  simp only at i2 c1 c2 c3 c4 le2
  have e1 : a.1 + ((gb - fb).toNat : Int) + ((fb + b.1 - gb).toNat : Int) = a.1 + b.1 := by omega
  have ti := T_split hb (fun x => x)
  rw [T_id hb] at ti
  have e2 : a.2 + S (fun x => x) fb (gb - fb).toNat + S (fun x => x) (gb + 1) (fb + b.1 - gb).toNat = a.2 + b.2 := by omega
  rw [e1, e2] at i2
  rw [e1] at c2 c3 c4 le2
  refine ⟨f2, g2, i2, by omega, ?_, ?_, fun p => ?_⟩
  · show _ ≤ en (a.1 + b.1) f2 g2
    omega
  · show _ ≤ en (a.1 + b.1) f2 g2
    unfold en at a3 ⊢
    by_cases z : gb < fb + b.1
    · have := c3 (by omega)
      unfold en at this
      rw [if_pos z]
      omega
    · unfold en at c2
      rw [if_neg z]
      omega
  · have x1 := le1 p
    have x2 := le2 p
    rw [T_split hb]
    show _ ≤ T (Ph p) (a.1 + b.1) f2 g2
    omega
/-- two blocks that meet -/
theorem merge_any {a b : P2} {fa ga fb gb : Int} (ha : Is a fa ga) (hb : Is b fb gb) (h1 : fa ≤ en b.1 fb gb) (h2 : fb ≤ en a.1 fa ga) :
    ∃ f g, Is (bAdd a b) f g ∧ f ≤ fa ∧ f ≤ fb ∧ en a.1 fa ga ≤ en (bAdd a b).1 f g ∧ en b.1 fb gb ≤ en (bAdd a b).1 f g ∧ ∀ p, T (Ph p) a.1 fa ga + T (Ph p) b.1 fb gb ≤ T (Ph p) (bAdd a b).1 f g := by
  rcases Int.le_total fa fb with q | q
  · obtain ⟨f, g, i, z1, z2, z3, z4⟩ := merge_lr ha hb q h2
    exact ⟨f, g, i, z1, by omega, z2, z3, z4⟩
  · obtain ⟨f, g, i, z1, z2, z3, z4⟩ := merge_lr hb ha q h1
    rw [bAdd_comm b a] at i z2 z3 z4
    exact ⟨f, g, i, by omega, z1, z3, z2, fun p => by have := z4 p; omega⟩
/-- the same by the program's words -/
theorem merge {a b : P2} (pa : 0 < a.1) (pb : 0 < b.1) (h1 : bFirst a ≤ bEnd b) (h2 : bFirst b ≤ bEnd a) :
    0 < (bAdd a b).1 ∧ bFirst (bAdd a b) ≤ bFirst a ∧ bFirst (bAdd a b) ≤ bFirst b ∧ bEnd a ≤ bEnd (bAdd a b) ∧ bEnd b ≤ bEnd (bAdd a b) ∧ ∀ p, BT (Ph p) a + BT (Ph p) b ≤ BT (Ph p) (bAdd a b) := by
  have ia := is_of pa
  have ib := is_of pb
  rw [bEnd_is ib] at h1
  rw [bEnd_is ia] at h2
  obtain ⟨f, g, i, z1, z2, z3, z4, z5⟩ := merge_any ia ib h1 h2
  obtain ⟨e1, e2⟩ := i.uniq
  rw [bEnd_is ia, bEnd_is ib, bEnd_is i, e1]
  refine ⟨i.pos, z1, z2, z3, z4, fun p => ?_⟩
  rw [BT_is ia, BT_is ib, BT_is i]
  exact z5 p
/-- one heap -/
theorem heap_block (p : Int) : ∀ k : Nat, ∃ f g, Is ((k : Int) + 1, ((k : Int) + 1) * p) f g ∧ f ≤ p ∧ p ≤ en ((k : Int) + 1) f g ∧ ∀ q, ((k : Int) + 1) * ph q p ≤ T (Ph q) ((k : Int) + 1) f g
  | 0 => ⟨p, p + 1, ⟨by show (0 : Int) < 0 + 1; omega, by omega, by show p + 1 ≤ p + (0 + 1); omega, by show 2 * ((0 + 1) * p) = _; grind⟩, by omega, by unfold en; split <;> omega, fun q => by
      unfold T
      show (0 + 1) * ph q p ≤ S (Ph q) p 2 - ph q (p + 1)
      simp [S, Ph]⟩
  | k + 1 => by
    obtain ⟨f, g, i, h1, h2, h3⟩ := heap_block p k
    have l2 := i.hi
    obtain ⟨f', g', i', a1, a2, a3, _, a5⟩ := add_run (w := 0) (.inl rfl) 1 i h1 (by
      unfold en at h2
      simp only at l2 ⊢
      split at h2 <;> omega)
    have eS : S (fun x => x) p 1 = p := by simp [S]
    have e1 : ((k + 1 : Nat) : Int) = (k : Int) + ((1 : Nat) : Int) := by omega
    have e2 : ((k : Int) + 1) * p + p = ((k : Int) + 1 + 1) * p := by grind
    rw [eS] at i'
    simp only [e2] at i'
    refine ⟨f', g', i', by omega, ?_, fun q => ?_⟩
    · have := a3 (by omega)
      have e : p + ((1 : Nat) : Int) - 1 = p := by omega
      rw [e] at this
      exact this
    · have x := h3 q
      have y := a5 q
      have eq : S (Ph q) p 1 = ph q p := by simp [S, Ph]
      rw [eq] at y
      have e3 : ((k : Int) + ((1 : Nat) : Int) + 1) * ph q p = ((k : Int) + 1) * ph q p + ph q p := by
        have e4 : ((1 : Nat) : Int) = 1 := rfl
        rw [e4]
        grind
      rw [e1, e3]
      refine Int.le_trans (Int.add_le_add_right x _) ?_
      exact y
theorem heap_one {n p : Int} (h : 0 < n) : bFirst (n, n * p) ≤ p ∧ p ≤ bEnd (n, n * p) ∧ ∀ q, n * ph q p ≤ BT (Ph q) (n, n * p) := by
  obtain ⟨k, rfl⟩ : ∃ k : Nat, n = (k : Int) + 1 := ⟨(n - 1).toNat, by omega⟩
  obtain ⟨f, g, i, h1, h2, h3⟩ := heap_block p k
  obtain ⟨e1, e2⟩ := i.uniq
  rw [bEnd_is i, e1]
  refine ⟨h1, h2, fun q => ?_⟩
  rw [BT_is i]
  exact h3 q
end Mth

set_option Elab.async false
namespace Mth
theorem S_right {q f : Int} : ∀ {m : Nat}, f + m - 1 ≤ q → S (Ph q) f m = q * m - S (fun x => x) f m
  | 0, _ => by simp [S]
  | m + 1, h => by
    have ih := S_right (q := q) (f := f) (m := m) (by omega)
    show S (Ph q) f m + ph q (f + m) = q * ((m + 1 : Nat) : Int) - (S (fun x => x) f m + (f + m))
    rw [ih]
    have e : ((m + 1 : Nat) : Int) = (m : Int) + 1 := by omega
    have e2 : ph q (f + m) = q - (f + m) := by unfold ph; split <;> omega
    rw [e, e2]
    grind
theorem S_leftz {q f : Int} (h : q ≤ f) : ∀ {m : Nat}, S (Ph q) f m = 0
  | 0 => rfl
  | m + 1 => by
    show S (Ph q) f m + ph q (f + m) = 0
    rw [S_leftz h]
    unfold ph
    split <;> omega
theorem BT_left {b : P2} {q : Int} (h : 0 < b.1) (hq : q ≤ bFirst b) : BT (Ph q) b = 0 := by
  have i := is_of h
  rw [BT_is i, T_split i, S_leftz hq, S_leftz (by have := i.lo; omega)]
  rfl
theorem BT_right {b : P2} {q : Int} (h : 0 < b.1) (hq : bEnd b ≤ q) : BT (Ph q) b = q * b.1 - b.2 := by
  have i := is_of h
  have l1 := i.lo
  have l2 := i.hi
  rw [bEnd_is i] at hq
  rw [BT_is i, T_split i]
  have ti := T_split i (fun x => x)
  rw [T_id i] at ti
  have t1 := T_split i (fun _ => 1)
  rw [T_one i, S_one, S_one] at t1
  unfold en at hq
  rw [S_right (by split at hq <;> omega)]
  have e2 : S (Ph q) (bGap b + 1) (bFirst b + b.1 - bGap b).toNat = q * ((bFirst b + b.1 - bGap b).toNat : Int) - S (fun x => x) (bGap b + 1) (bFirst b + b.1 - bGap b).toNat := by
    by_cases z : bGap b < bFirst b + b.1
    · rw [if_pos z] at hq
      exact S_right (by omega)
    · rw [show (bFirst b + b.1 - bGap b).toNat = 0 by omega]
      simp [S]
  rw [e2, ti]
  generalize (bGap b - bFirst b).toNat = m1 at *
  generalize (bFirst b + b.1 - bGap b).toNat = m2 at *
  rw [t1]
  grind
theorem bFirst_le_end {b : P2} (h : 0 < b.1) : bFirst b ≤ bEnd b := by
  obtain ⟨h1, h2⟩ := bGap_bounds h
  unfold bEnd
  split <;> omega
/-- q lies not inside of b -/
def Out (q : Int) (b : P2) : Prop := q ≤ bFirst b ∨ bEnd b ≤ q
theorem BT_out {a b c : P2} {q : Int} (ha : 0 < a.1) (hb : 0 < b.1) (hc : c = bAdd a b) (h1 : bFirst c ≤ bFirst a) (h2 : bFirst c ≤ bFirst b) (h3 : bEnd a ≤ bEnd c) (h4 : bEnd b ≤ bEnd c) (o : Out q c) : BT (Ph q) c = BT (Ph q) a + BT (Ph q) b := by
  subst hc
  have pc : 0 < (bAdd a b).1 := by show 0 < a.1 + b.1; omega
  rcases o with o | o
  · rw [BT_left pc o, BT_left ha (by omega), BT_left hb (by omega)]; rfl
  · rw [BT_right pc o, BT_right ha (by omega), BT_right hb (by omega)]
    show q * (a.1 + b.1) - (a.2 + b.2) = _
    grind
/-! ### the stack -/
def sm (F : P2 → Int) (l : List P2) : Int := (l.map F).sum
theorem sm_nil (F : P2 → Int) : sm F [] = 0 := rfl
theorem sm_cons (F : P2 → Int) (a : P2) (l : List P2) : sm F (a :: l) = F a + sm F l := by unfold sm; rw [List.map_cons, List.sum_cons]
theorem sm_append (F : P2 → Int) (l m : List P2) : sm F (l ++ m) = sm F l + sm F m := by unfold sm; rw [List.map_append, List.sum_append]
theorem sm_perm (F : P2 → Int) {l m : List P2} (h : l.Perm m) : sm F l = sm F m := by
  induction h with
  | nil => rfl
  | cons x _ ih => rw [sm_cons, sm_cons, ih]
  | swap x y l => rw [sm_cons, sm_cons, sm_cons, sm_cons]; omega
  | trans _ _ h1 h2 => exact h1.trans h2
structure Stk (st : List P2) (pm : Int) : Prop where
  pos : ∀ b ∈ st, 0 < b.1
  sep : st.Pairwise fun a b => bEnd b < bFirst a
  fst : ∀ b ∈ st, bFirst b ≤ pm
theorem push_ok : ∀ {st : List P2} {b : P2} {pm : Int}, Stk st pm → 0 < b.1 → bFirst b ≤ pm → (∀ a ∈ st, bFirst a ≤ bEnd b) →
    Stk (push st b) pm ∧ sm (·.1) (push st b) = sm (·.1) st + b.1 ∧ sm (·.2) (push st b) = sm (·.2) st + b.2 ∧ (∀ q, sm (BT (Ph q)) st + BT (Ph q) b ≤ sm (BT (Ph q)) (push st b)) ∧
    (∀ a, a = b ∨ a ∈ st → ∃ c ∈ push st b, bFirst c ≤ bFirst a ∧ bEnd a ≤ bEnd c) ∧ (∀ q, (∀ c ∈ push st b, Out q c) → sm (BT (Ph q)) (push st b) = sm (BT (Ph q)) st + BT (Ph q) b)
  | [], b, pm, s, hb, hf, _ => by
    refine ⟨⟨fun c hc => ?_, List.pairwise_singleton _ _, fun c hc => ?_⟩, ?_, ?_, fun q => ?_, fun a ha => ?_, fun q _ => ?_⟩
    · rcases List.mem_singleton.mp hc with rfl; exact hb
    · rcases List.mem_singleton.mp hc with rfl; exact hf
    · show sm (·.1) [b] = _; rw [sm_cons, sm_nil]; omega
    · show sm (·.2) [b] = _; rw [sm_cons, sm_nil]; omega
    · show _ ≤ sm _ [b]; rw [sm_cons, sm_nil]; omega
    · rcases ha with rfl | ha
      · exact ⟨a, List.mem_singleton.mpr rfl, by omega, by omega⟩
      · exact nomatch ha
    · show sm _ [b] = _; rw [sm_cons, sm_nil]; omega
  | a :: r, b, pm, s, hb, hf, hx => by
    obtain ⟨p1, p2, p3⟩ := s
    obtain ⟨q1, q2⟩ := List.pairwise_cons.mp p2
    have pa := p1 a List.mem_cons_self
    unfold push
    split
    · rename_i hm
      obtain ⟨m1, m2, m3, m4, m5, m6⟩ := merge pa hb (hx a List.mem_cons_self) hm
      have fa := p3 a List.mem_cons_self
      obtain ⟨i1, i2, i3, i4, i5, i6⟩ := push_ok (st := r) (b := bAdd a b) (pm := pm) ⟨fun c hc => p1 c (List.mem_cons_of_mem _ hc), q2, fun c hc => p3 c (List.mem_cons_of_mem _ hc)⟩ m1 (by omega) (fun c hc => by
        have := q1 c hc
        have := bFirst_le_end (p1 c (List.mem_cons_of_mem _ hc))
        have := bFirst_le_end pa
        omega)
      refine ⟨i1, ?_, ?_, fun q => ?_, fun c hc => ?_, fun q hq => ?_⟩
      · rw [i2, sm_cons]
        show sm (·.1) r + (a.1 + b.1) = a.1 + sm (·.1) r + b.1
        omega
      · rw [i3, sm_cons]
        show sm (·.2) r + (a.2 + b.2) = a.2 + sm (·.2) r + b.2
        omega
      · have := i4 q
        have := m6 q
        rw [sm_cons]
        omega
      · obtain ⟨d, d1, d2, d3⟩ := i5 (bAdd a b) (.inl rfl)
        rcases hc with rfl | hc
        · exact ⟨d, d1, by omega, by omega⟩
        · rcases List.mem_cons.mp hc with rfl | hc
          · exact ⟨d, d1, by omega, by omega⟩
          · exact i5 c (.inr hc)
      · obtain ⟨d, d1, d2, d3⟩ := i5 (bAdd a b) (.inl rfl)
        have o : Out q (bAdd a b) := by
          rcases hq d d1 with z | z
          · exact .inl (by omega)
          · exact .inr (by omega)
        rw [i6 q hq, sm_cons, BT_out pa hb rfl m2 m3 m4 m5 o]
        omega
    · rename_i hm
      refine ⟨⟨fun c hc => ?_, List.pairwise_cons.mpr ⟨fun c hc => ?_, p2⟩, fun c hc => ?_⟩, ?_, ?_, fun q => ?_, fun c hc => ?_, fun q _ => ?_⟩
      · rcases List.mem_cons.mp hc with rfl | hc
        · exact hb
        · exact p1 c hc
      · rcases List.mem_cons.mp hc with rfl | hc
        · omega
        · have := q1 c hc
          have := bFirst_le_end pa
          omega
      · rcases List.mem_cons.mp hc with rfl | hc
        · exact hf
        · exact p3 c hc
      · rw [sm_cons]; omega
      · rw [sm_cons]; omega
      · rw [sm_cons (BT (Ph q)) b]; omega
      · refine ⟨c, ?_, by omega, by omega⟩
        rcases hc with rfl | hc
        · exact List.mem_cons_self
        · exact List.mem_cons_of_mem _ hc
      · rw [sm_cons (BT (Ph q)) b]; omega
/-- what heaps weigh -/
def hp (φ : Int → Int) (h : P2) : Int := h.2 * φ h.1
structure Stk2 (st hs : List P2) (pm : Int) : Prop where
  ok : Stk st pm
  cnt : sm (·.1) st = sm (·.2) hs
  tot : sm (·.2) st = sm (fun h => h.2 * h.1) hs
  le : ∀ q, sm (hp (Ph q)) hs ≤ sm (BT (Ph q)) st
  out : ∀ q, (∀ c ∈ st, Out q c) → sm (BT (Ph q)) st = sm (hp (Ph q)) hs
  cov : ∀ h ∈ hs, 0 < h.2 → ∃ c ∈ st, bFirst c ≤ h.1 ∧ h.1 ≤ bEnd c
theorem pushH_ok {st hs : List P2} {pm : Int} {h : P2} (s : Stk2 st hs pm) (h0 : 0 ≤ h.2) (hp1 : pm ≤ h.1) : Stk2 (pushH st h) (hs ++ [h]) h.1 := by
  obtain ⟨⟨p1, p2, p3⟩, c1, c2, c3, c4, c5⟩ := s
  have ok' : Stk st h.1 := ⟨p1, p2, fun b hb => by have := p3 b hb; omega⟩
  unfold pushH
  split
  · rename_i hc
    obtain ⟨z1, z2, z3⟩ := heap_one (p := h.1) hc
    obtain ⟨i1, i2, i3, i4, i5, i6⟩ := push_ok (b := (h.2, h.2 * h.1)) ok' hc z1 (fun a ha => by have := p3 a ha; omega)
    refine ⟨i1, ?_, ?_, fun q => ?_, fun q hq => ?_, fun k hk pk => ?_⟩
    · rw [i2, sm_append, sm_cons, sm_nil, c1]; simp
    · rw [i3, sm_append, sm_cons, sm_nil, c2]; simp
    · have := i4 q
      have := c3 q
      have := z3 q
      rw [sm_append, sm_cons, sm_nil]
      show _ + (h.2 * ph q h.1 + 0) ≤ _
      omega
    · rw [i6 q hq, sm_append, sm_cons, sm_nil, c4 q fun c hc => ?_]
      · obtain ⟨d, d1, d2, d3⟩ := i5 _ (.inl rfl)
        show _ + BT (Ph q) (h.2, h.2 * h.1) = _ + (h.2 * ph q h.1 + 0)
        rcases hq d d1 with z | z
        · rw [BT_left hc (by omega)]
          have : ph q h.1 = 0 := by unfold ph; split <;> omega
          rw [this]; simp
        · rw [BT_right hc (by omega)]
          have : ph q h.1 = q - h.1 := by unfold ph; split <;> omega
          rw [this]
          show sm (hp (Ph q)) hs + (q * h.2 - h.2 * h.1) = _
          grind
      · obtain ⟨d, d1, d2, d3⟩ := i5 c (.inr hc)
        rcases hq d d1 with z | z
        · exact .inl (by omega)
        · exact .inr (by omega)
    · rcases List.mem_append.mp hk with hk | hk
      · obtain ⟨c, e1, e2, e3⟩ := c5 k hk pk
        obtain ⟨d, d1, d2, d3⟩ := i5 c (.inr e1)
        exact ⟨d, d1, by omega, by omega⟩
      · rcases List.mem_singleton.mp hk with rfl
        obtain ⟨d, d1, d2, d3⟩ := i5 _ (.inl rfl)
        exact ⟨d, d1, by omega, by omega⟩
  · have e : h.2 = 0 := by omega
    refine ⟨ok', ?_, ?_, fun q => ?_, fun q hq => ?_, fun k hk pk => ?_⟩
    · rw [sm_append, sm_cons, sm_nil, c1, e]; simp
    · rw [sm_append, sm_cons, sm_nil, c2, e]; simp
    · have := c3 q
      rw [sm_append, sm_cons, sm_nil]
      show _ + (h.2 * ph q h.1 + 0) ≤ _
      rw [e]; simp; omega
    · rw [c4 q hq, sm_append, sm_cons, sm_nil]
      show _ = _ + (h.2 * ph q h.1 + 0)
      rw [e]; simp
    · rcases List.mem_append.mp hk with hk | hk
      · exact c5 k hk pk
      · rcases List.mem_singleton.mp hk with rfl
        omega
theorem foldl_ok : ∀ {l st hs : List P2} {pm : Int}, Stk2 st hs pm → (∀ h ∈ l, 0 ≤ h.2) → (∀ h ∈ l, pm ≤ h.1) → Sd l → ∃ pm', Stk2 (l.foldl pushH st) (hs ++ l) pm'
  | [], st, hs, pm, s, _, _, _ => ⟨pm, by rw [List.append_nil]; exact s⟩
  | x :: r, st, hs, pm, s, h0, h1, sd => by
    obtain ⟨s1, s2⟩ := List.pairwise_cons.mp sd
    have := pushH_ok s (h0 x List.mem_cons_self) (h1 x List.mem_cons_self)
    obtain ⟨pm', z⟩ := foldl_ok this (fun h hh => h0 h (List.mem_cons_of_mem _ hh)) (fun h hh => by
      have := s1 h hh
      unfold leP at this
      simp only [Bool.or_eq_true, Bool.and_eq_true, decide_eq_true_eq] at this
      omega) s2
    rw [List.append_assoc] at z
    exact ⟨pm', z⟩
/-- heaps as they may be told -/
def Ok (hs : List P2) : Prop := ∀ h ∈ hs, 0 ≤ h.2
theorem Ok.perm {l m : List P2} (h : Ok l) (p : m.Perm l) : Ok m := fun x hx => h x (p.mem_iff.mp hx)
theorem stack_ok {hs : List P2} (h : Ok hs) : ∃ pm, Stk2 (stack hs) hs pm := by
  have hs' : Ok (sortP hs) := h.perm (sortP_perm hs)
  have bound : ∃ pm, ∀ x ∈ sortP hs, pm ≤ x.1 := by
    cases e : sortP hs with
    | nil => exact ⟨0, fun x hx => nomatch hx⟩
    | cons a r =>
      refine ⟨a.1, fun x hx => ?_⟩
      have sd := sortP_sd hs
      rw [e] at sd
      obtain ⟨s1, _⟩ := List.pairwise_cons.mp sd
      rcases List.mem_cons.mp hx with rfl | hx
      · omega
      · have := s1 x hx
        unfold leP at this
        simp only [Bool.or_eq_true, Bool.and_eq_true, decide_eq_true_eq] at this
        omega
  obtain ⟨pm, hpm⟩ := bound
  have s0 : Stk2 [] [] pm := ⟨⟨(fun _ h => nomatch h), List.Pairwise.nil, (fun _ h => nomatch h)⟩, rfl, rfl, (fun _ => Int.le_refl _), (fun _ _ => rfl), (fun _ h => nomatch h)⟩
  obtain ⟨pm', c0, c1, c2, c3, c4, c5⟩ := foldl_ok s0 hs' hpm (sortP_sd hs)
  rw [List.nil_append] at c1 c2 c3 c4 c5
  have p := sortP_perm hs
  refine ⟨pm', c0, ?_, ?_, fun q => ?_, fun q hq => ?_, fun k hk => ?_⟩
  · rw [← sm_perm _ p]; exact c1
  · rw [← sm_perm _ p]; exact c2
  · rw [← sm_perm _ p]; exact c3 q
  · rw [← sm_perm _ p]; exact c4 q hq
  · exact c5 k (p.mem_iff.mpr hk)
end Mth

set_option Elab.async false
namespace Mth
/-! ### stretches: sums over them, which places they have -/
def ov (φ : Int → Int) (p : P2) : Int := S φ p.1 (p.2 - p.1 + 1).toNat
theorem ov_parts {b : P2} (h : 0 < b.1) (φ : Int → Int) : sm (ov φ) (bParts b) = BT φ b := by
  have i := is_of h
  have l1 := i.lo
  have l2 := i.hi
  rw [BT_is i, T_split i]
  unfold bParts bLast
  split
  · rename_i c
    rw [sm_cons, sm_cons, sm_nil]
    unfold ov
    simp only
    rw [show bGap b - 1 - bFirst b + 1 = bGap b - bFirst b by omega, show bFirst b + b.1 - (bGap b + 1) + 1 = bFirst b + b.1 - bGap b by omega]
    omega
  · rename_i c
    rw [sm_cons, sm_nil]
    unfold ov
    simp only
    rw [show bGap b - 1 - bFirst b + 1 = bGap b - bFirst b by omega, show (bFirst b + b.1 - bGap b).toNat = 0 by omega]
    simp [S]
/-- in their turn, none empty -/
structure Tn (ps : List P2) : Prop where
  ne : ∀ p ∈ ps, p.1 ≤ p.2
  up : ps.Pairwise fun a b => a.2 < b.1
/-- and with a place between -/
structure Can (ps : List P2) : Prop where
  ne : ∀ p ∈ ps, p.1 ≤ p.2
  up : ps.Pairwise fun a b => a.2 + 1 < b.1
theorem parts_in {b p : P2} (h : 0 < b.1) (hp : p ∈ bParts b) : bFirst b ≤ p.1 ∧ p.1 ≤ p.2 ∧ p.2 ≤ bEnd b := by
  obtain ⟨h1, h2⟩ := bGap_bounds h
  unfold bParts at hp
  unfold bEnd
  split at hp
  · rename_i c
    rw [if_pos c]
    rcases List.mem_cons.mp hp with rfl | hp
    · simp only; omega
    · rcases List.mem_singleton.mp hp with rfl
      simp only; omega
  · rename_i c
    rw [if_neg c]
    rcases List.mem_singleton.mp hp with rfl
    simp only; omega
theorem parts_tn {b : P2} (h : 0 < b.1) : Tn (bParts b) := by
  refine ⟨fun p hp => (parts_in h hp).2.1, ?_⟩
  unfold bParts
  split
  · refine List.pairwise_cons.mpr ⟨fun q hq => ?_, List.pairwise_singleton _ _⟩
    rcases List.mem_singleton.mp hq with rfl
    simp only; omega
  · exact List.pairwise_singleton _ _
theorem flat_tn : ∀ {bs : List P2}, (∀ b ∈ bs, 0 < b.1) → (bs.Pairwise fun a b => bEnd a < bFirst b) → Tn (bs.flatMap bParts)
  | [], _, _ => ⟨(fun _ h => nomatch h), List.Pairwise.nil⟩
  | b :: r, h, hp => by
    obtain ⟨s1, s2⟩ := List.pairwise_cons.mp hp
    have hb := h b List.mem_cons_self
    obtain ⟨a1, a2⟩ := parts_tn hb
    obtain ⟨r1, r2⟩ := flat_tn (bs := r) (fun c hc => h c (List.mem_cons_of_mem _ hc)) s2
    rw [List.flatMap_cons]
    refine ⟨fun p hp => ?_, List.pairwise_append.mpr ⟨a2, r2, fun p hp q hq => ?_⟩⟩
    · rcases List.mem_append.mp hp with hp | hp
      · exact a1 p hp
      · exact r1 p hp
    · obtain ⟨c, hc, hq⟩ := List.mem_flatMap.mp hq
      have x1 := parts_in hb hp
      have x2 := parts_in (h c (List.mem_cons_of_mem _ hc)) hq
      have x3 := s1 c hc
      omega
theorem ov_flat (φ : Int → Int) : ∀ {bs : List P2}, (∀ b ∈ bs, 0 < b.1) → sm (ov φ) (bs.flatMap bParts) = sm (BT φ) bs
  | [], _ => rfl
  | b :: r, h => by
    rw [List.flatMap_cons, sm_append, sm_cons, ov_parts (h b List.mem_cons_self), ov_flat φ fun c hc => h c (List.mem_cons_of_mem _ hc)]
/-- joined, the last first -/
structure CanR (J : List P2) : Prop where
  ne : ∀ p ∈ J, p.1 ≤ p.2
  up : J.Pairwise fun a b => b.2 + 1 < a.1
theorem join1_ok {J : List P2} {p : P2} (h : CanR J) (hp : p.1 ≤ p.2) (hl : ∀ q ∈ J, q.2 < p.1) : CanR (join1 J p) ∧ (∀ q ∈ join1 J p, q.2 ≤ p.2) ∧ ∀ φ, sm (ov φ) (join1 J p) = sm (ov φ) J + ov φ p := by
  cases J with
  | nil =>
    refine ⟨⟨fun q hq => ?_, List.pairwise_singleton _ _⟩, fun q hq => ?_, fun φ => ?_⟩
    · rcases List.mem_singleton.mp hq with rfl; exact hp
    · rcases List.mem_singleton.mp hq with rfl; exact Int.le_refl _
    · show sm (ov φ) [p] = _
      rw [sm_cons, sm_nil]; omega
  | cons q r =>
    obtain ⟨n1, u1⟩ := h
    obtain ⟨v1, v2⟩ := List.pairwise_cons.mp u1
    have hq := n1 q List.mem_cons_self
    have hqp := hl q List.mem_cons_self
    rw [show join1 (q :: r) p = if q.2 + 1 = p.1 then (q.1, p.2) :: r else p :: q :: r from rfl]
    split
    · rename_i c
      refine ⟨⟨fun z hz => ?_, List.pairwise_cons.mpr ⟨fun z hz => v1 z hz, v2⟩⟩, fun z hz => ?_, fun φ => ?_⟩
      · rcases List.mem_cons.mp hz with rfl | hz
        · show q.1 ≤ p.2; omega
        · exact n1 z (List.mem_cons_of_mem _ hz)
      · rcases List.mem_cons.mp hz with rfl | hz
        · exact Int.le_refl _
        · have := hl z (List.mem_cons_of_mem _ hz); omega
      · rw [sm_cons, sm_cons]
        have e : ov φ (q.1, p.2) = ov φ q + ov φ p := by
          unfold ov
          simp only
          rw [show (p.2 - q.1 + 1).toNat = (q.2 - q.1 + 1).toNat + (p.2 - p.1 + 1).toNat by omega, S_add, show q.1 + ((q.2 - q.1 + 1).toNat : Int) = p.1 by omega]
        rw [e]; omega
    · rename_i c
      refine ⟨⟨fun z hz => ?_, List.pairwise_cons.mpr ⟨fun z hz => ?_, u1⟩⟩, fun z hz => ?_, fun φ => ?_⟩
      · rcases List.mem_cons.mp hz with rfl | hz
        · exact hp
        · exact n1 z hz
      · rcases List.mem_cons.mp hz with rfl | hz
        · omega
        · have := v1 z hz; omega
      · rcases List.mem_cons.mp hz with rfl | hz
        · exact Int.le_refl _
        · have := hl z hz; omega
      · rw [sm_cons]; omega
theorem joins_ok : ∀ {ps J : List P2}, CanR J → Tn ps → (∀ q ∈ J, ∀ p ∈ ps, q.2 < p.1) → CanR (ps.foldl join1 J) ∧ ∀ φ, sm (ov φ) (ps.foldl join1 J) = sm (ov φ) J + sm (ov φ) ps
  | [], J, h, _, _ => ⟨h, fun φ => by rw [sm_nil]; show sm (ov φ) J = _; omega⟩
  | p :: r, J, h, t, hl => by
    obtain ⟨n1, u1⟩ := t
    obtain ⟨v1, v2⟩ := List.pairwise_cons.mp u1
    obtain ⟨j1, j2, j3⟩ := join1_ok h (n1 p List.mem_cons_self) fun q hq => hl q hq p List.mem_cons_self
    obtain ⟨k1, k2⟩ := joins_ok (ps := r) (J := join1 J p) j1 ⟨fun z hz => n1 z (List.mem_cons_of_mem _ hz), v2⟩ fun q hq z hz => by
      have := j2 q hq
      have := v1 z hz
      omega
    refine ⟨k1, fun φ => ?_⟩
    rw [List.foldl_cons, k2, j3, sm_cons]; omega
theorem sm_rev (F : P2 → Int) (l : List P2) : sm F l.reverse = sm F l := sm_perm F (List.reverse_perm l)
theorem stretches_ok {hs : List P2} (h : Ok hs) : Can (stretches hs) ∧ ∀ φ, sm (ov φ) (stretches hs) = sm (BT φ) (stack hs) := by
  obtain ⟨pm, s⟩ := stack_ok h
  have pos : ∀ b ∈ (stack hs).reverse, 0 < b.1 := fun b hb => s.ok.pos b (List.mem_reverse.mp hb)
  have sep : (stack hs).reverse.Pairwise fun a b => bEnd a < bFirst b := List.pairwise_reverse.mpr s.ok.sep
  obtain ⟨j1, j2⟩ := joins_ok (ps := (stack hs).reverse.flatMap bParts) (J := []) ⟨(fun _ h => nomatch h), List.Pairwise.nil⟩ (flat_tn pos sep) (fun _ h => nomatch h)
  refine ⟨⟨fun p hp => j1.ne p (List.mem_reverse.mp hp), List.pairwise_reverse.mpr j1.up⟩, fun φ => ?_⟩
  unfold stretches
  rw [sm_rev]
  show sm (ov φ) (joins _) = _
  unfold joins
  rw [j2, ov_flat φ pos, sm_rev, sm_nil, Int.zero_add]
theorem ov_one {p : P2} (h : p.1 ≤ p.2) : ov (fun _ => 1) p = p.2 - p.1 + 1 := by unfold ov; rw [S_one]; omega
theorem ov_id {p : P2} (h : p.1 ≤ p.2) : 2 * ov (fun x => x) p = (p.1 + p.2) * (p.2 - p.1 + 1) := by
  unfold ov
  rw [S_id]
  have e : ((p.2 - p.1 + 1).toNat : Int) = p.2 - p.1 + 1 := by omega
  rw [e]
  grind
theorem sm_congr {F G : P2 → Int} : ∀ {l : List P2}, (∀ p ∈ l, F p = G p) → sm F l = sm G l
  | [], _ => rfl
  | x :: r, h => by rw [sm_cons, sm_cons, h x List.mem_cons_self, sm_congr fun p hp => h p (List.mem_cons_of_mem _ hp)]
theorem sm_scale (k : Int) (F : P2 → Int) : ∀ l : List P2, sm (fun p => k * F p) l = k * sm F l
  | [] => by simp [sm]
  | x :: r => by rw [sm_cons, sm_cons, sm_scale k F r, Int.mul_add]
theorem sm_addF (F G : P2 → Int) : ∀ l : List P2, sm (fun p => F p + G p) l = sm F l + sm G l
  | [] => rfl
  | x :: r => by rw [sm_cons, sm_cons, sm_cons, sm_addF F G r]; omega
theorem BT_one {b : P2} (h : 0 < b.1) : BT (fun _ => 1) b = b.1 := by rw [BT_is (is_of h), T_one (is_of h)]
theorem BT_id {b : P2} (h : 0 < b.1) : BT (fun x => x) b = b.2 := by rw [BT_is (is_of h), T_id (is_of h)]
theorem stretch_count {hs : List P2} (h : Ok hs) : sm (fun p => p.2 - p.1 + 1) (stretches hs) = sm (·.2) hs := by
  obtain ⟨c, e⟩ := stretches_ok h
  obtain ⟨pm, s⟩ := stack_ok h
  rw [← sm_congr (F := ov fun _ => 1) fun p hp => ov_one (c.ne p hp), e, sm_congr (G := (·.1)) fun b hb => BT_one (s.ok.pos b hb), s.cnt]
theorem stretch_total {hs : List P2} (h : Ok hs) : sm (fun p => (p.1 + p.2) * (p.2 - p.1 + 1)) (stretches hs) = 2 * sm (fun h => h.1 * h.2) hs := by
  obtain ⟨c, e⟩ := stretches_ok h
  obtain ⟨pm, s⟩ := stack_ok h
  rw [← sm_congr (F := fun p => 2 * ov (fun x => x) p) fun p hp => ov_id (c.ne p hp), sm_scale, e, sm_congr (F := BT fun x => x) (G := (·.2)) fun b hb => BT_id (s.ok.pos b hb), s.tot, sm_congr (F := fun h => h.2 * h.1) (G := fun h => h.1 * h.2) fun p _ => Int.mul_comm _ _]
/-- has the place one? -/
def hasB (ps : List P2) (x : Int) : Bool := ps.any fun p => decide (p.1 ≤ x) && decide (x ≤ p.2)
/-! ### the law's own way -/
def groups (hs : List P2) : List P2 := ((sortP hs).filter fun h => decide (0 < h.2)).map fun h => (h.2, h.2 * h.1)
theorem groups_stack (hs : List P2) : (groups hs).foldl push [] = stack hs := by
  unfold groups stack
  generalize sortP hs = l
  generalize ([] : List P2) = st
  induction l generalizing st with
  | nil => rfl
  | cons x r ih =>
    by_cases c : 0 < x.2
    · rw [List.filter_cons_of_pos (by simpa using c), List.map_cons, List.foldl_cons, List.foldl_cons, ih]
      congr 1
      unfold pushH
      rw [if_pos c]
    · rw [List.filter_cons_of_neg (by simpa using c), List.foldl_cons, ih]
      congr 1
      unfold pushH
      rw [if_neg c]
theorem law_first {n t : Int} (h : 0 < n) : bFirst (n, t) = (2 * t - n * (n - 1)) / (2 * n) ∧
    bGap (n, t) = (2 * t - n * (n - 1)) / (2 * n) + n - (t - n * ((2 * t - n * (n - 1)) / (2 * n)) - n * (n - 1) / 2) ∧
    (n * ((2 * t - n * (n - 1)) / (2 * n)) + n * (n - 1) / 2 = t ↔ bGap (n, t) = bLast (n, t)) := by
  have e : 2 * (n * (n - 1) / 2) = n * (n - 1) := by
    have := tri_even (n - 1)
    rw [show n - 1 + 1 = n by omega, Int.mul_comm (n - 1) n] at this
    exact this
  generalize hs : n * (n - 1) / 2 = s at *
  have e2 : 2 * t - n * (n - 1) = 2 * (t - s) := by omega
  rw [e2, Int.mul_ediv_mul_of_pos _ _ (by decide)]
  have h1 := Int.mul_ediv_add_emod (t - s) n
  have h2 := Int.emod_nonneg (t - s) (show n ≠ 0 by omega)
  have h3 := Int.emod_lt_of_pos (t - s) h
  generalize (t - s) / n = q at *
  generalize (t - s) % n = r at *
  have hr : t - n * q - s = r := by omega
  rw [hr]
  by_cases z : r = 0
  · have i : Is (n, t) q (q + n) := ⟨h, by omega, by show q + n ≤ q + n; omega, by show 2 * t = 2 * (n + 1) * q + n * (n + 1) - 2 * (q + n); grind⟩
    obtain ⟨a1, a2⟩ := i.uniq
    unfold bLast
    rw [a1, a2]
    refine ⟨rfl, by omega, ?_⟩
    constructor <;> intro _ <;> (try simp only) <;> omega
  · have i : Is (n, t) q (q + n - r) := ⟨h, by omega, by show q + n - r ≤ q + n; omega, by show 2 * t = 2 * (n + 1) * q + n * (n + 1) - 2 * (q + n - r); grind⟩
    obtain ⟨a1, a2⟩ := i.uniq
    unfold bLast
    rw [a1, a2]
    refine ⟨rfl, by omega, ?_⟩
    constructor <;> intro _ <;> (try simp only at *) <;> omega
end Mth

set_option Elab.async false
namespace Mth
/-! ### how often a place gives -/
def gaveF (hs : List P2) (p : Int) : Int := sm (ov (Ph p)) (stretches hs) - sm (hp (Ph p)) hs
theorem gaveF_nonneg {hs : List P2} (h : Ok hs) (p : Int) : 0 ≤ gaveF hs p := by
  obtain ⟨c, e⟩ := stretches_ok h
  obtain ⟨pm, s⟩ := stack_ok h
  have := s.le p
  unfold gaveF
  rw [e]
  omega
def wayTo (p f l : Int) : Int := if p ≤ f then 0 else (p - f + p - (if p - 1 < l then p - 1 else l)) * ((if p - 1 < l then p - 1 else l) - f + 1) / 2
theorem S_ph {p f : Int} {m : Nat} (h : f + m ≤ p + 1) : 2 * S (Ph p) f m = (2 * p - 2 * f - m + 1) * m := by
  rw [S_right (q := p) (by omega)]
  have := S_id f m
  grind
theorem wayTo_ov {p : Int} {q : P2} (h : q.1 ≤ q.2) : wayTo p q.1 q.2 = ov (Ph p) q := by
  obtain ⟨f, l⟩ := q
  simp only at h
  unfold wayTo ov
  simp only
  by_cases c : p ≤ f
  · rw [if_pos c, S_leftz c]
  · rw [if_neg c]
    by_cases c2 : p - 1 < l
    · rw [if_pos c2]
      have e : (l - f + 1).toNat = (p - f).toNat + (l - p + 1).toNat := by omega
      rw [e, S_add, show f + ((p - f).toNat : Int) = p by omega, S_leftz (Int.le_refl p)]
      have := S_ph (p := p) (f := f) (m := (p - f).toNat) (by omega)
      have e2 : ((p - f).toNat : Int) = p - f := by omega
      rw [e2] at this
      rw [show (p - f + p - (p - 1)) * (p - 1 - f + 1) = (2 * p - 2 * f - (p - f) + 1) * (p - f) by grind, ← this]
      omega
    · rw [if_neg c2]
      have := S_ph (p := p) (f := f) (m := (l - f + 1).toNat) (by omega)
      have e2 : ((l - f + 1).toNat : Int) = l - f + 1 := by omega
      rw [e2] at this
      rw [show (p - f + p - l) * (l - f + 1) = (2 * p - 2 * f - (l - f + 1) + 1) * (l - f + 1) by grind, ← this]
      omega
/-- one at x -/
def dl (x y : Int) : Int := if y = x then 1 else 0
theorem ph_dd (x y : Int) : ph (x - 1) y + ph (x + 1) y - 2 * ph x y = dl x y := by
  unfold ph dl
  repeat' split
  all_goals omega
theorem S_lin (a b : Int) (φ ψ : Int → Int) (f : Int) : ∀ m : Nat, S (fun y => a * φ y + b * ψ y) f m = a * S φ f m + b * S ψ f m
  | 0 => by simp [S]
  | m + 1 => by
    show S (fun y => a * φ y + b * ψ y) f m + (a * φ (f + m) + b * ψ (f + m)) = a * (S φ f m + φ (f + m)) + b * (S ψ f m + ψ (f + m))
    rw [S_lin a b φ ψ f m]
    grind
theorem ov_dd (x : Int) (q : P2) : ov (Ph (x - 1)) q + ov (Ph (x + 1)) q - 2 * ov (Ph x) q = ov (dl x) q := by
  unfold ov
  generalize (q.2 - q.1 + 1).toNat = m
  induction m with
  | zero => rfl
  | succ m ih =>
    show (S (Ph (x - 1)) q.1 m + ph (x - 1) (q.1 + m)) + (S (Ph (x + 1)) q.1 m + ph (x + 1) (q.1 + m)) - 2 * (S (Ph x) q.1 m + ph x (q.1 + m)) = S (dl x) q.1 m + dl x (q.1 + m)
    have := ph_dd x (q.1 + m)
    omega
theorem sm_dd {F G D : P2 → Int} {E : P2 → Int} : ∀ {l : List P2}, (∀ p ∈ l, F p + G p - 2 * D p = E p) → sm F l + sm G l - 2 * sm D l = sm E l
  | [], _ => rfl
  | x :: r, h => by
    rw [sm_cons, sm_cons, sm_cons, sm_cons]
    have h1 := h x List.mem_cons_self
    have h2 := sm_dd (l := r) fun p hp => h p (List.mem_cons_of_mem _ hp)
    omega
theorem S_dl (x f : Int) : ∀ m : Nat, S (dl x) f m = if f ≤ x ∧ x < f + m then 1 else 0
  | 0 => by
    show (0 : Int) = _
    rw [if_neg (by omega)]
  | m + 1 => by
    show S (dl x) f m + dl x (f + m) = _
    rw [S_dl x f m]
    unfold dl
    repeat' split
    all_goals omega
theorem ov_dl (x : Int) {q : P2} (h : q.1 ≤ q.2) : ov (dl x) q = if q.1 ≤ x ∧ x ≤ q.2 then 1 else 0 := by
  unfold ov
  rw [S_dl]
  repeat' split
  all_goals omega
theorem has_sum {ps : List P2} (c : Can ps) (x : Int) : sm (ov (dl x)) ps = if hasB ps x then 1 else 0 := by
  obtain ⟨n, u⟩ := c
  induction ps with
  | nil => rfl
  | cons q r ih =>
    obtain ⟨u1, u2⟩ := List.pairwise_cons.mp u
    have ih := ih (fun p hp => n p (List.mem_cons_of_mem _ hp)) u2
    rw [sm_cons, ih, ov_dl x (n q List.mem_cons_self)]
    have e : hasB (q :: r) x = ((decide (q.1 ≤ x) && decide (x ≤ q.2)) || hasB r x) := by unfold hasB; rw [List.any_cons]
    rw [e]
    by_cases c1 : q.1 ≤ x ∧ x ≤ q.2
    · have h2 : hasB r x = false := by
        unfold hasB
        refine List.any_eq_false.mpr fun p hp => ?_
        have := u1 p hp
        simp only [Bool.and_eq_true, decide_eq_true_eq]
        omega
      rw [if_pos c1, h2, decide_eq_true c1.1, decide_eq_true c1.2]
      rfl
    · rw [if_neg c1]
      have h1 : (decide (q.1 ≤ x) && decide (x ≤ q.2)) = false := by
        rw [Bool.eq_false_iff]
        intro z
        rw [Bool.and_eq_true] at z
        exact c1 ⟨of_decide_eq_true z.1, of_decide_eq_true z.2⟩
      rw [h1, Bool.false_or]
      omega
/-- what the place has by heaps -/
def hadF (hs : List P2) (x : Int) : Int := sm (fun h => if h.1 = x then h.2 else 0) hs
theorem gave_lap {hs : List P2} (h : Ok hs) (x : Int) : hadF hs x + gaveF hs (x - 1) + gaveF hs (x + 1) - 2 * gaveF hs x = if hasB (stretches hs) x then 1 else 0 := by
  have h1 := sm_dd (F := ov (Ph (x - 1))) (G := ov (Ph (x + 1))) (D := ov (Ph x)) (E := ov (dl x)) (l := stretches hs) fun p _ => ov_dd x p
  have h2 := sm_dd (F := hp (Ph (x - 1))) (G := hp (Ph (x + 1))) (D := hp (Ph x)) (E := fun h => if h.1 = x then h.2 else 0) (l := hs) fun p _ => by
    unfold hp Ph
    have := ph_dd x p.1
    unfold dl at this
    split
    · rename_i c
      rw [if_pos c] at this
      have : p.2 * ph (x - 1) p.1 + p.2 * ph (x + 1) p.1 - 2 * (p.2 * ph x p.1) = p.2 * (ph (x - 1) p.1 + ph (x + 1) p.1 - 2 * ph x p.1) := by grind
      rw [this]
      rename_i e
      rw [e]
      omega
    · rename_i c
      rw [if_neg c] at this
      have : p.2 * ph (x - 1) p.1 + p.2 * ph (x + 1) p.1 - 2 * (p.2 * ph x p.1) = p.2 * (ph (x - 1) p.1 + ph (x + 1) p.1 - 2 * ph x p.1) := by grind
      rw [this]
      rename_i e
      rw [e]
      omega
  rw [has_sum (stretches_ok h).1] at h1
  unfold gaveF hadF
  omega
theorem ov_leftz {p : Int} {q : P2} (h : p ≤ q.1) : ov (Ph p) q = 0 := S_leftz h
theorem gave_left {hs : List P2} (h : Ok hs) {p : Int} (hp1 : ∀ q ∈ stretches hs, p ≤ q.1) : gaveF hs p = 0 := by
  have h0 := gaveF_nonneg h p
  have h1 : sm (ov (Ph p)) (stretches hs) = 0 := by
    rw [sm_congr (G := fun _ => 0) fun q hq => ov_leftz (hp1 q hq)]
    generalize stretches hs = l
    induction l with
    | nil => rfl
    | cons x r ih => rw [sm_cons, ih]; rfl
  have h2 : 0 ≤ sm (hp (Ph p)) hs := by
    have key : ∀ l : List P2, Ok l → 0 ≤ sm (hp (Ph p)) l := by
      intro l
      induction l with
      | nil => intro _; exact Int.le_refl _
      | cons x r ih =>
        intro hl
        rw [sm_cons]
        have := ih fun y hy => hl y (List.mem_cons_of_mem _ hy)
        have hx := hl x List.mem_cons_self
        have : 0 ≤ hp (Ph p) x := by
          unfold hp Ph
          refine Int.mul_nonneg hx ?_
          unfold ph
          split <;> omega
        omega
    exact key hs h
  unfold gaveF at *
  omega
theorem gave_right {hs : List P2} (h : Ok hs) {p : Int} (hp1 : ∀ q ∈ stretches hs, q.2 ≤ p) : gaveF hs p = 0 := by
  have h0 := gaveF_nonneg h p
  obtain ⟨c, e⟩ := stretches_ok h
  obtain ⟨pm, s⟩ := stack_ok h
  have c1 : sm (ov fun _ => 1) (stretches hs) = sm (·.2) hs := by rw [e, sm_congr (G := (·.1)) fun b hb => BT_one (s.ok.pos b hb), s.cnt]
  have c2 : sm (ov fun x => x) (stretches hs) = sm (fun h => h.2 * h.1) hs := by rw [e, sm_congr (G := (·.2)) fun b hb => BT_id (s.ok.pos b hb), s.tot]
  have h1 : sm (ov (Ph p)) (stretches hs) = p * sm (·.2) hs - sm (fun h => h.2 * h.1) hs := by
    rw [← c1, ← c2]
    have key : ∀ l : List P2, (∀ q ∈ l, q.1 ≤ q.2 ∧ q.2 ≤ p) → sm (ov (Ph p)) l = p * sm (ov fun _ => 1) l - sm (ov fun x => x) l := by
      intro l
      induction l with
      | nil => intro _; simp [sm]
      | cons x r ih =>
        intro hl
        rw [sm_cons, sm_cons, sm_cons, ih fun y hy => hl y (List.mem_cons_of_mem _ hy)]
        obtain ⟨x1, x2⟩ := hl x List.mem_cons_self
        have : ov (Ph p) x = p * ov (fun _ => 1) x - ov (fun x => x) x := by
          unfold ov
          rw [S_right (by omega), S_one]
        rw [this]
        grind
    exact key _ fun q hq => ⟨c.ne q hq, hp1 q hq⟩
  have h2 : p * sm (·.2) hs - sm (fun h => h.2 * h.1) hs ≤ sm (hp (Ph p)) hs := by
    have key : ∀ l : List P2, Ok l → p * sm (·.2) l - sm (fun h => h.2 * h.1) l ≤ sm (hp (Ph p)) l := by
      intro l
      induction l with
      | nil => intro _; simp [sm]
      | cons x r ih =>
        intro hl
        rw [sm_cons, sm_cons, sm_cons]
        have i1 := ih fun y hy => hl y (List.mem_cons_of_mem _ hy)
        have hx := hl x List.mem_cons_self
        have : x.2 * (p - x.1) ≤ hp (Ph p) x := by
          unfold hp Ph
          refine Int.mul_le_mul_of_nonneg_left ?_ hx
          unfold ph
          split <;> omega
        have e1 : x.2 * (p - x.1) = p * x.2 - x.2 * x.1 := by grind
        have e2 : p * (x.2 + sm (·.2) r) = p * x.2 + p * sm (·.2) r := by grind
        rw [e2]
        omega
    exact key hs h
  unfold gaveF at *
  omega
/-! ### all of them, by squares -/
def sqTo (n : Int) : Int := n * (n + 1) * (2 * n + 1) / 6
theorem sqTo_six (n : Int) : 6 * sqTo n = n * (n + 1) * (2 * n + 1) := by
  have h : n * (n + 1) * (2 * n + 1) % 6 = 0 := by
    obtain ⟨k, r, hr, rfl⟩ : ∃ k r : Int, (r = 0 ∨ r = 1 ∨ r = 2 ∨ r = 3 ∨ r = 4 ∨ r = 5) ∧ n = 6 * k + r := ⟨n / 6, n % 6, by omega, by omega⟩
    have e : (6 * k + r) * (6 * k + r + 1) * (2 * (6 * k + r) + 1) = 6 * (72 * k * k * k + 36 * k * k * r + 18 * k * k + 6 * k * r * r + 6 * k * r + k) + r * (r + 1) * (2 * r + 1) := by grind
    rw [e]
    rcases hr with rfl | rfl | rfl | rfl | rfl | rfl <;> omega
  unfold sqTo
  omega
theorem sqTo_step (n : Int) : sqTo n - sqTo (n - 1) = n * n := by
  have h1 := sqTo_six n
  have h2 := sqTo_six (n - 1)
  have e : n * (n + 1) * (2 * n + 1) - (n - 1) * (n - 1 + 1) * (2 * (n - 1) + 1) = 6 * (n * n) := by grind
  omega
theorem S_sq (f : Int) : ∀ m : Nat, S (fun x => x * x) f m = sqTo (f + m - 1) - sqTo (f - 1)
  | 0 => by
    show (0 : Int) = _
    rw [show f + ((0 : Nat) : Int) - 1 = f - 1 by omega]
    omega
  | m + 1 => by
    show S (fun x => x * x) f m + (f + m) * (f + m) = _
    rw [S_sq f m]
    have := sqTo_step (f + m)
    rw [show f + ((m + 1 : Nat) : Int) - 1 = f + m by omega]
    omega
theorem squares_ov {q : P2} (h : q.1 ≤ q.2) : sqTo q.2 - sqTo (q.1 - 1) = ov (fun x => x * x) q := by
  unfold ov
  rw [S_sq, show q.1 + ((q.2 - q.1 + 1).toNat : Int) - 1 = q.2 by omega]
theorem lawsq_ov {q : P2} (h : q.1 ≤ q.2) : (q.2 - q.1 + 1) * q.1 * q.1 + q.1 * (q.2 - q.1 + 1) * (q.2 - q.1 + 1 - 1) + (q.2 - q.1 + 1 - 1) * (q.2 - q.1 + 1) * (2 * (q.2 - q.1 + 1) - 1) / 6 = ov (fun x => x * x) q := by
  rw [← squares_ov h]
  generalize hm : q.2 - q.1 + 1 = m
  have e1 : (m - 1) * m * (2 * m - 1) / 6 = sqTo (m - 1) := by
    unfold sqTo
    rw [show m - 1 + 1 = m by omega, show 2 * (m - 1) + 1 = 2 * m - 1 by omega]
  rw [e1]
  have e2 : q.2 = q.1 + m - 1 := by omega
  rw [e2]
  generalize q.1 = f
  have h1 := sqTo_six (m - 1)
  have h2 := sqTo_six (f + m - 1)
  have h3 := sqTo_six (f - 1)
  have e : 6 * (m * f * f + f * m * (m - 1)) + (m - 1) * (m - 1 + 1) * (2 * (m - 1) + 1) = (f + m - 1) * (f + m - 1 + 1) * (2 * (f + m - 1) + 1) - (f - 1) * (f - 1 + 1) * (2 * (f - 1) + 1) := by grind
  omega
def allF (hs : List P2) : Int := (sm (ov fun x => x * x) (stretches hs) - sm (fun h => h.2 * h.1 * h.1) hs) / 2
theorem sq_par (x : Int) : (x * x - x) % 2 = 0 := by
  have : x % 2 = 0 ∨ x % 2 = 1 := by omega
  obtain ⟨k, hk⟩ : ∃ k, x = 2 * k ∨ x = 2 * k + 1 := ⟨x / 2, by omega⟩
  rcases hk with rfl | rfl
  · rw [show 2 * k * (2 * k) - 2 * k = 2 * (2 * k * k - k) by grind]; omega
  · rw [show (2 * k + 1) * (2 * k + 1) - (2 * k + 1) = 2 * (2 * k * k + k) by grind]; omega
theorem allF_two {hs : List P2} (h : Ok hs) : 2 * allF hs = sm (ov fun x => x * x) (stretches hs) - sm (fun h => h.2 * h.1 * h.1) hs := by
  obtain ⟨c, e⟩ := stretches_ok h
  obtain ⟨pm, s⟩ := stack_ok h
  have c2 : sm (ov fun x => x) (stretches hs) = sm (fun h => h.2 * h.1) hs := by rw [e, sm_congr (G := (·.2)) fun b hb => BT_id (s.ok.pos b hb), s.tot]
  have k1 : ∀ (f : Int) (m : Nat), (S (fun x => x * x) f m - S (fun x => x) f m) % 2 = 0 := by
    intro f m
    induction m with
    | zero => rfl
    | succ m ih =>
      show (S (fun x => x * x) f m + (f + m) * (f + m) - (S (fun x => x) f m + (f + m))) % 2 = 0
      have := sq_par (f + m)
      omega
  have k2 : ∀ l : List P2, (sm (ov fun x => x * x) l - sm (ov fun x => x) l) % 2 = 0 := by
    intro l
    induction l with
    | nil => rfl
    | cons x r ih =>
      rw [sm_cons, sm_cons]
      have : (ov (fun x => x * x) x - ov (fun x => x) x) % 2 = 0 := k1 _ _
      omega
  have k3 : ∀ l : List P2, (sm (fun h => h.2 * h.1 * h.1) l - sm (fun h => h.2 * h.1) l) % 2 = 0 := by
    intro l
    induction l with
    | nil => rfl
    | cons x r ih =>
      rw [sm_cons, sm_cons]
      have h1 := sq_par x.1
      have h2 : x.2 * x.1 * x.1 - x.2 * x.1 = x.2 * (x.1 * x.1 - x.1) := by grind
      have : (x.2 * x.1 * x.1 - x.2 * x.1) % 2 = 0 := by
        rw [h2, Int.mul_emod, h1]
        simp
      omega
  have k4 := k2 (stretches hs)
  have k5 := k3 hs
  unfold allF
  omega
end Mth

set_option Elab.async false
namespace Mth
/-! ### least: no other giving brings every place to one chip at most with less -/
theorem argmax (f : Int → Int) (L : Int) : ∀ n : Nat, ∃ p, L ≤ p ∧ p ≤ L + n ∧ (∀ x, L ≤ x → x < p → f x < f p) ∧ ∀ x, L ≤ x → x ≤ L + n → f x ≤ f p
  | 0 => ⟨L, by omega, by omega, fun x h1 h2 => by omega, fun x h1 h2 => by rw [show x = L by omega]; exact Int.le_refl _⟩
  | n + 1 => by
    obtain ⟨p, h1, h2, h3, h4⟩ := argmax f L n
    by_cases c : f p < f (L + (n + 1 : Nat))
    · refine ⟨L + (n + 1 : Nat), by omega, by omega, fun x x1 x2 => ?_, fun x x1 x2 => ?_⟩
      · have := h4 x x1 (by omega)
        omega
      · by_cases e : x = L + (n + 1 : Nat)
        · rw [e]; exact Int.le_refl _
        · have := h4 x x1 (by omega)
          omega
    · refine ⟨p, h1, by omega, h3, fun x x1 x2 => ?_⟩
      by_cases e : x = L + (n + 1 : Nat)
      · rw [e]; omega
      · exact h4 x x1 (by omega)
/-- a chip there? -/
def hs01 (ps : List P2) (x : Int) : Int := if hasB ps x then 1 else 0
theorem hs01_b (ps : List P2) (x : Int) : hs01 ps x = 0 ∨ hs01 ps x = 1 := by unfold hs01; split <;> simp
theorem least_core {u v c had : Int → Int} {L R : Int} (_hu : ∀ x, 0 ≤ u x) (hL : ∀ x, x ≤ L → u x = 0) (hR : ∀ x, R ≤ x → u x = 0) (hc : ∀ x, c x = 0 ∨ c x = 1) (lap : ∀ x, had x + u (x - 1) + u (x + 1) - 2 * u x = c x)
    (good : ∀ p q, p < q → (∀ x, p ≤ x → x ≤ q → 0 < u x) → c p = 0 → c q = 0 → False) (hv : ∀ x, 0 ≤ v x) (hlap : ∀ x, had x + v (x - 1) + v (x + 1) - 2 * v x ≤ 1) (x : Int) : u x ≤ v x := by
  apply Classical.byContradiction
  intro hx
  have ux : 0 < u x := by have := hv x; omega
  have xL : L < x := by
    apply Classical.byContradiction
    intro z
    have := hL x (by omega)
    omega
  have xR : x < R := by
    apply Classical.byContradiction
    intro z
    have := hR x (by omega)
    omega
  obtain ⟨p, p1, p2, p3, p4⟩ := argmax (fun y => u y - v y) L (R - L).toNat
  have hM : 0 < u p - v p := by have := p4 x (by omega) (by omega); omega
  -- the greatest everywhere
  have mx : ∀ y, u y - v y ≤ u p - v p := by
    intro y
    by_cases c1 : y < L
    · have := hL y (by omega); have := hv y; omega
    · by_cases c2 : R < y
      · have := hR y (by omega); have := hv y; omega
      · exact p4 y (by omega) (by omega)
  have pl : u (p - 1) - v (p - 1) < u p - v p := by
    by_cases c1 : p - 1 < L
    · have := hL (p - 1) (by omega); have := hv (p - 1); omega
    · exact p3 (p - 1) (by omega) (by omega)
  have cp : c p = 0 := by
    have h1 := lap p
    have h2 := hlap p
    have h3 := mx (p + 1)
    rcases hc p with h | h
    · exact h
    · omega
  have step : ∀ n : Nat, ∀ k : Nat, k ≤ n → u (p + k) - v (p + k) = u p - v p := by
    intro n
    induction n with
    | zero =>
      intro k hk
      rw [show k = 0 by omega]
      simp
    | succ n ih =>
      intro k hk
      by_cases ek : k ≤ n
      · exact ih k ek
      · have ek : k = n + 1 := by omega
        subst ek
        have h0 := ih n (Nat.le_refl _)
        have h1 := lap (p + n)
        have h2 := hlap (p + n)
        have h3 := mx (p + n - 1)
        have h4 := mx (p + n + 1)
        rw [show p + ((n + 1 : Nat) : Int) = p + n + 1 by omega]
        by_cases z : n = 0
        · subst z
          simp only [Int.natCast_zero, Int.add_zero] at h1 h2 h3 h4 ⊢
          have := hc p
          omega
        · have cq : c (p + n) ≠ 0 := fun e => good p (p + n) (by omega) (fun y y1 y2 => by
            have h5 := ih (y - p).toNat (by omega)
            rw [show p + ((y - p).toNat : Int) = y by omega] at h5
            have := hv y
            omega) cp e
          have := hc (p + n)
          omega
  have fin := step (R - p).toNat (R - p).toNat (Nat.le_refl _)
  rw [show p + ((R - p).toNat : Int) = R by omega] at fin
  have := hR R (Int.le_refl _)
  have := hv R
  omega
theorem pw_tri {α : Type} {R : α → α → Prop} : ∀ {l : List α}, l.Pairwise R → ∀ {a b : α}, a ∈ l → b ∈ l → a = b ∨ R a b ∨ R b a
  | [], _, _, _, ha, _ => nomatch ha
  | x :: r, h, a, b, ha, hb => by
    obtain ⟨h1, h2⟩ := List.pairwise_cons.mp h
    rcases List.mem_cons.mp ha with rfl | ha2
    · rcases List.mem_cons.mp hb with rfl | hb2
      · exact .inl rfl
      · exact .inr (.inl (h1 b hb2))
    · rcases List.mem_cons.mp hb with rfl | hb2
      · exact .inr (.inr (h1 a ha2))
      · exact pw_tri h2 ha2 hb2
theorem gave_in {hs : List P2} (h : Ok hs) {x : Int} (hx : 0 < gaveF hs x) : ∃ b ∈ stack hs, bFirst b < x ∧ x < bEnd b := by
  obtain ⟨pm, s⟩ := stack_ok h
  obtain ⟨c, e⟩ := stretches_ok h
  apply Classical.byContradiction
  intro z
  have := s.out x fun b hb => by
    by_cases c1 : x ≤ bFirst b
    · exact .inl c1
    · by_cases c2 : bEnd b ≤ x
      · exact .inr c2
      · exact absurd ⟨b, hb, by omega, by omega⟩ z
  unfold gaveF at hx
  rw [e] at hx
  omega
theorem BT_dl {b : P2} (h : 0 < b.1) (x : Int) : 0 ≤ BT (dl x) b ∧ (bFirst b ≤ x → x ≤ bEnd b → x ≠ bGap b → BT (dl x) b = 1) := by
  have i := is_of h
  have l1 := i.lo
  have l2 := i.hi
  rw [BT_is i, T_split i, S_dl, S_dl]
  refine ⟨?_, fun h1 h2 h3 => ?_⟩
  · split <;> split <;> omega
  · have : bEnd b ≤ bFirst b + b.1 := by
      unfold bEnd
      unfold bLast
      split <;> omega
    repeat' split
    all_goals omega
theorem gap_of {hs : List P2} (h : Ok hs) {b : P2} (hb : b ∈ stack hs) {x : Int} (h1 : bFirst b ≤ x) (h2 : x ≤ bEnd b) (hx : hs01 (stretches hs) x = 0) : x = bGap b := by
  obtain ⟨pm, s⟩ := stack_ok h
  obtain ⟨c, e⟩ := stretches_ok h
  have e1 := has_sum c x
  rw [e] at e1
  apply Classical.byContradiction
  intro z
  have one := (BT_dl (s.ok.pos b hb) x).2 h1 h2 z
  have key : ∀ l : List P2, (∀ a ∈ l, 0 < a.1) → b ∈ l → BT (dl x) b ≤ sm (BT (dl x)) l := by
    intro l
    induction l with
    | nil => intro _ hb; exact nomatch hb
    | cons a r ih =>
      intro hl hb
      rw [sm_cons]
      have ha := (BT_dl (hl a List.mem_cons_self) x).1
      rcases List.mem_cons.mp hb with rfl | hb
      · have : 0 ≤ sm (BT (dl x)) r := by
          have hr : ∀ a ∈ r, 0 < a.1 := fun a ha => hl a (List.mem_cons_of_mem _ ha)
          clear ih hl hb
          induction r with
          | nil => exact Int.le_refl _
          | cons a r ih =>
            rw [sm_cons]
            have := (BT_dl (hr a List.mem_cons_self) x).1
            have := ih fun a ha => hr a (List.mem_cons_of_mem _ ha)
            omega
        omega
      · have := ih (fun a ha => hl a (List.mem_cons_of_mem _ ha)) hb
        omega
  have := key _ s.ok.pos hb
  unfold hs01 at hx
  omega
theorem gave_good {hs : List P2} (h : Ok hs) (p q : Int) (hpq : p < q) (hu : ∀ x, p ≤ x → x ≤ q → 0 < gaveF hs x) (cp : hs01 (stretches hs) p = 0) (cq : hs01 (stretches hs) q = 0) : False := by
  obtain ⟨pm, s⟩ := stack_ok h
  obtain ⟨b, hb, b1, b2⟩ := gave_in h (hu p (Int.le_refl _) (by omega))
  have all : ∀ n : Nat, p + n ≤ q → bFirst b < p + n ∧ p + n < bEnd b := by
    intro n
    induction n with
    | zero => intro _; omega
    | succ n ih =>
      intro hn
      obtain ⟨i1, i2⟩ := ih (by omega)
      obtain ⟨d, hd, d1, d2⟩ := gave_in h (hu (p + (n + 1 : Nat)) (by omega) hn)
      rcases pw_tri s.ok.sep hb hd with e | e | e
      · subst e
        exact ⟨d1, d2⟩
      · omega
      · omega
  have l := all (q - p).toNat (by omega)
  rw [show p + ((q - p).toNat : Int) = q by omega] at l
  have g1 := gap_of h hb (by omega) (by omega) cp
  have g2 := gap_of h hb (by omega) (by omega) cq
  omega
theorem stretch_span (ps : List P2) : ∃ L R : Int, ∀ q ∈ ps, L ≤ q.1 ∧ q.2 ≤ R := by
  induction ps with
  | nil => exact ⟨0, 0, fun _ h => nomatch h⟩
  | cons a r ih =>
    obtain ⟨L, R, h⟩ := ih
    refine ⟨if L < a.1 then L else a.1, if a.2 < R then R else a.2, fun q hq => ?_⟩
    rcases List.mem_cons.mp hq with rfl | hq
    · constructor <;> split <;> omega
    · have := h q hq
      constructor <;> split <;> omega
theorem least {hs : List P2} (h : Ok hs) {v : Int → Int} (hv : ∀ x, 0 ≤ v x) (hlap : ∀ x, hadF hs x + v (x - 1) + v (x + 1) - 2 * v x ≤ 1) (x : Int) : gaveF hs x ≤ v x := by
  obtain ⟨L, R, hLR⟩ := stretch_span (stretches hs)
  exact least_core (fun y => gaveF_nonneg h y) (L := L) (R := R) (fun y hy => gave_left h fun q hq => by have := hLR q hq; omega) (fun y hy => gave_right h fun q hq => by have := hLR q hq; omega) (hs01_b (stretches hs)) (fun y => gave_lap h y) (gave_good h) hv hlap x
theorem gave_lap' {hs : List P2} (h : Ok hs) (x : Int) : hadF hs x + gaveF hs (x - 1) + gaveF hs (x + 1) - 2 * gaveF hs x = hs01 (stretches hs) x := gave_lap h x
theorem gave_lap1 {hs : List P2} (h : Ok hs) (x : Int) : hadF hs x + gaveF hs (x - 1) + gaveF hs (x + 1) - 2 * gaveF hs x ≤ 1 := by
  have := gave_lap' h x
  have := hs01_b (stretches hs) x
  omega
/-! ### stretches by their places -/
theorem hasB_cons (q : P2) (r : List P2) (x : Int) : hasB (q :: r) x = ((decide (q.1 ≤ x) && decide (x ≤ q.2)) || hasB r x) := by unfold hasB; rw [List.any_cons]
theorem hasB_iff {ps : List P2} {x : Int} : hasB ps x = true ↔ ∃ q ∈ ps, q.1 ≤ x ∧ x ≤ q.2 := by
  unfold hasB
  rw [List.any_eq_true]
  simp only [Bool.and_eq_true, decide_eq_true_eq]
theorem can_tail {q : P2} {r : List P2} (c : Can (q :: r)) : Can r ∧ ∀ a ∈ r, q.2 + 1 < a.1 := by
  obtain ⟨n, u⟩ := c
  obtain ⟨u1, u2⟩ := List.pairwise_cons.mp u
  exact ⟨⟨fun a ha => n a (List.mem_cons_of_mem _ ha), u2⟩, u1⟩
theorem can_eq : ∀ {ps qs : List P2}, Can ps → Can qs → (∀ x, hasB ps x = hasB qs x) → ps = qs
  | [], [], _, _, _ => rfl
  | [], q :: s, _, c, h => by
    have h1 : hasB (q :: s) q.1 = true := hasB_iff.mpr ⟨q, List.mem_cons_self, Int.le_refl _, c.ne q List.mem_cons_self⟩
    rw [← h] at h1
    exact nomatch h1
  | p :: r, [], c, _, h => by
    have h1 : hasB (p :: r) p.1 = true := hasB_iff.mpr ⟨p, List.mem_cons_self, Int.le_refl _, c.ne p List.mem_cons_self⟩
    rw [h] at h1
    exact nomatch h1
  | p :: r, q :: s, c, d, h => by
    obtain ⟨c1, c2⟩ := can_tail c
    obtain ⟨d1, d2⟩ := can_tail d
    have np := c.ne p List.mem_cons_self
    have nq := d.ne q List.mem_cons_self
    have low : ∀ {q : P2} {s : List P2} {x : Int}, Can (q :: s) → hasB (q :: s) x = true → q.1 ≤ x := by
      intro q s x d hx
      obtain ⟨a, ha, a1, a2⟩ := hasB_iff.mp hx
      rcases List.mem_cons.mp ha with rfl | ha
      · exact a1
      · have := (can_tail d).2 a ha
        have := d.ne q List.mem_cons_self
        omega
    have e1 : p.1 = q.1 := by
      have h1 : hasB (p :: r) p.1 = true := hasB_iff.mpr ⟨p, List.mem_cons_self, Int.le_refl _, np⟩
      have h2 : hasB (q :: s) q.1 = true := hasB_iff.mpr ⟨q, List.mem_cons_self, Int.le_refl _, nq⟩
      rw [h] at h1
      rw [← h] at h2
      have := low d h1
      have := low c h2
      omega
    have end_ : ∀ {p : P2} {r : List P2}, Can (p :: r) → hasB (p :: r) (p.2 + 1) = false := by
      intro p r c
      rw [Bool.eq_false_iff]
      intro z
      obtain ⟨a, ha, a1, a2⟩ := hasB_iff.mp z
      rcases List.mem_cons.mp ha with rfl | ha
      · omega
      · have := (can_tail c).2 a ha
        omega
    have mid : ∀ {p : P2} {r : List P2} {x : Int}, p.1 ≤ x → x ≤ p.2 → hasB (p :: r) x = true := fun h1 h2 => hasB_iff.mpr ⟨_, List.mem_cons_self, h1, h2⟩
    have e2 : p.2 = q.2 := by
      have f1 := end_ c
      have f2 := end_ d
      by_cases z : p.2 < q.2
      · have := mid (p := q) (r := s) (x := p.2 + 1) (by omega) (by omega)
        rw [← h, f1] at this
        cases this
      · by_cases z2 : q.2 < p.2
        · have := mid (p := p) (r := r) (x := q.2 + 1) (by omega) (by omega)
          rw [h, f2] at this
          cases this
        · omega
    have e : p = q := Prod.ext e1 e2
    subst e
    congr 1
    refine can_eq c1 d1 fun x => ?_
    by_cases z : x ≤ p.2
    · have none_ : ∀ {r : List P2}, (∀ a ∈ r, p.2 + 1 < a.1) → hasB r x = false := by
        intro r hr
        rw [Bool.eq_false_iff]
        intro w
        obtain ⟨a, ha, a1, a2⟩ := hasB_iff.mp w
        have := hr a ha
        omega
      rw [none_ c2, none_ d2]
    · have := h x
      rw [hasB_cons, hasB_cons, decide_eq_false z, Bool.and_false, Bool.false_or, Bool.false_or] at this
      exact this
theorem hs01_eq {ps qs : List P2} {x y : Int} (h : hs01 ps x = hs01 qs y) : hasB ps x = hasB qs y := by
  unfold hs01 at h
  cases h1 : hasB ps x <;> cases h2 : hasB qs y <;> rw [h1, h2] at h <;> first | rfl | (simp at h)
/-- the same heaps at each place: the same -/
theorem same {hs gs : List P2} (h : Ok hs) (g : Ok gs) (e : ∀ x, hadF hs x = hadF gs x) : (∀ x, gaveF hs x = gaveF gs x) ∧ stretches hs = stretches gs := by
  have eq : ∀ x, gaveF hs x = gaveF gs x := fun x => by
    have h1 := least h (v := gaveF gs) (gaveF_nonneg g) (fun y => by rw [e]; exact gave_lap1 g y) x
    have h2 := least g (v := gaveF hs) (gaveF_nonneg h) (fun y => by rw [← e]; exact gave_lap1 h y) x
    omega
  refine ⟨eq, can_eq (stretches_ok h).1 (stretches_ok g).1 fun x => hs01_eq ?_⟩
  rw [← gave_lap' h, ← gave_lap' g, e, eq, eq, eq]
/-- moved by so much -/
theorem moved {hs gs : List P2} (h : Ok hs) (g : Ok gs) (k : Int) (e : ∀ x, hadF gs (x + k) = hadF hs x) : (∀ x, gaveF gs (x + k) = gaveF hs x) ∧ stretches gs = (stretches hs).map fun q => (q.1 + k, q.2 + k) := by
  have eq : ∀ x, gaveF gs (x + k) = gaveF hs x := fun x => by
    have h1 := least h (v := fun y => gaveF gs (y + k)) (fun y => gaveF_nonneg g _) (fun y => by
      have := gave_lap1 g (y + k)
      rw [e] at this
      rw [show y - 1 + k = y + k - 1 by omega, show y + 1 + k = y + k + 1 by omega]
      exact this) x
    have h2 := least g (v := fun y => gaveF hs (y - k)) (fun y => gaveF_nonneg h _) (fun y => by
      have := gave_lap1 h (y - k)
      rw [← e, show y - k + k = y by omega] at this
      rw [show y - 1 - k = y - k - 1 by omega, show y + 1 - k = y - k + 1 by omega]
      exact this) (x + k)
    rw [show x + k - k = x by omega] at h2
    omega
  refine ⟨eq, can_eq (stretches_ok g).1 ?_ fun x => ?_⟩
  · obtain ⟨n, u⟩ := (stretches_ok h).1
    refine ⟨fun q hq => ?_, List.pairwise_map.mpr (u.imp fun r => by simp only; omega)⟩
    obtain ⟨r, hr, rfl⟩ := List.mem_map.mp hq
    have := n r hr
    simp only
    omega
  · have h1 : hasB ((stretches hs).map fun q => (q.1 + k, q.2 + k)) x = hasB (stretches hs) (x - k) := by
      unfold hasB
      rw [List.any_map]
      congr 1
      funext q
      simp only [Function.comp]
      rw [show decide (q.1 + k ≤ x) = decide (q.1 ≤ x - k) by rw [Bool.eq_iff_iff]; simp; omega, show decide (x ≤ q.2 + k) = decide (x - k ≤ q.2) by rw [Bool.eq_iff_iff]; simp; omega]
    rw [h1]
    refine hs01_eq ?_
    rw [← gave_lap' h, ← gave_lap' g, ← e (x - k), ← eq (x - k - 1), ← eq (x - k + 1), ← eq (x - k), show x - k + k = x by omega, show x - k - 1 + k = x - 1 by omega, show x - k + 1 + k = x + 1 by omega]
/-- mirrored -/
theorem mirrored {hs gs : List P2} (h : Ok hs) (g : Ok gs) (e : ∀ x, hadF gs (-x) = hadF hs x) : (∀ x, gaveF gs (-x) = gaveF hs x) ∧ stretches gs = (stretches hs).reverse.map fun q => (-q.2, -q.1) := by
  have eq : ∀ x, gaveF gs (-x) = gaveF hs x := fun x => by
    have h1 := least h (v := fun y => gaveF gs (-y)) (fun y => gaveF_nonneg g _) (fun y => by
      have := gave_lap1 g (-y)
      rw [e] at this
      rw [show -(y - 1) = -y + 1 by omega, show -(y + 1) = -y - 1 by omega]
      omega) x
    have h2 := least g (v := fun y => gaveF hs (-y)) (fun y => gaveF_nonneg h _) (fun y => by
      have := gave_lap1 h (-y)
      rw [← e, show - -y = y by omega] at this
      rw [show -(y - 1) = -y + 1 by omega, show -(y + 1) = -y - 1 by omega]
      omega) (-x)
    rw [show - -x = x by omega] at h2
    omega
  refine ⟨eq, can_eq (stretches_ok g).1 ?_ fun x => ?_⟩
  · obtain ⟨n, u⟩ := (stretches_ok h).1
    refine ⟨fun q hq => ?_, List.pairwise_map.mpr (List.pairwise_reverse.mpr (u.imp fun r => by simp only; omega))⟩
    obtain ⟨r, hr, rfl⟩ := List.mem_map.mp hq
    have := n r (List.mem_reverse.mp hr)
    simp only
    omega
  · have h1 : hasB ((stretches hs).reverse.map fun q => (-q.2, -q.1)) x = hasB (stretches hs) (-x) := by
      unfold hasB
      rw [List.any_map, List.any_reverse]
      congr 1
      funext q
      simp only [Function.comp]
      rw [show decide (-q.2 ≤ x) = decide (-x ≤ q.2) by rw [Bool.eq_iff_iff]; simp; omega, show decide (x ≤ -q.1) = decide (q.1 ≤ -x) by rw [Bool.eq_iff_iff]; simp; omega, Bool.and_comm]
    rw [h1]
    refine hs01_eq ?_
    have a1 := eq (-x)
    have a2 := eq (-x - 1)
    have a3 := eq (-x + 1)
    have a4 := e (-x)
    have b1 := gave_lap' h (-x)
    have b2 := gave_lap' g x
    rw [show - -x = x by omega] at a1 a4
    rw [show -(-x - 1) = x + 1 by omega] at a2
    rw [show -(-x + 1) = x - 1 by omega] at a3
    omega
/-- put in later -/
theorem later {ss ms rs tm rm : List P2} (s : Ok ss) (m : Ok ms) (r : Ok rs) (t : Ok tm) (n : Ok rm) (e1 : ∀ x, hadF rs x = hs01 (stretches ss) x) (e2 : ∀ x, hadF tm x = hadF ss x + hadF ms x) (e3 : ∀ x, hadF rm x = hadF rs x + hadF ms x) :
    (∀ x, gaveF tm x = gaveF ss x + gaveF rm x) ∧ stretches rm = stretches tm := by
  have m0 : ∀ x, 0 ≤ hadF ms x := fun x => by
    clear e2 e3
    unfold hadF
    induction ms with
    | nil => exact Int.le_refl _
    | cons a l ih =>
      rw [sm_cons]
      have := m a List.mem_cons_self
      have := ih fun b hb => m b (List.mem_cons_of_mem _ hb)
      split <;> omega
  have eq : ∀ x, gaveF tm x = gaveF ss x + gaveF rm x := by
    have h1 := fun x => least t (v := fun y => gaveF ss y + gaveF rm y) (fun y => by have := gaveF_nonneg s y; have := gaveF_nonneg n y; omega) (fun y => by
      have a := gave_lap' s y
      have b := gave_lap1 n y
      rw [e3, e1] at b
      rw [e2]
      omega) x
    have h2 := least s (v := gaveF tm) (gaveF_nonneg t) (fun y => by
      have := gave_lap1 t y
      rw [e2] at this
      have := m0 y
      omega)
    have h3 := fun x => least n (v := fun y => gaveF tm y - gaveF ss y) (fun y => by have := h2 y; omega) (fun y => by
      have a := gave_lap' s y
      have b := gave_lap1 t y
      rw [e2] at b
      rw [e3, e1]
      omega) x
    intro x
    have := h1 x
    have := h3 x
    omega
  refine ⟨eq, can_eq (stretches_ok n).1 (stretches_ok t).1 fun x => hs01_eq ?_⟩
  have a := gave_lap' s x
  have b := gave_lap' n x
  have c := gave_lap' t x
  rw [e2, eq, eq, eq] at c
  rw [e3, e1] at b
  omega
end Mth

set_option Elab.async false
namespace Mth
def sq2 (h : P2) : Int := h.2 * h.1 * h.1
theorem sqTo_neg (n : Int) : sqTo (-n) = -sqTo (n - 1) := by
  have h1 := sqTo_six (-n)
  have h2 := sqTo_six (n - 1)
  have : -n * (-n + 1) * (2 * -n + 1) = -((n - 1) * (n - 1 + 1) * (2 * (n - 1) + 1)) := by grind
  omega
theorem ov_mir {q : P2} (h : q.1 ≤ q.2) : ov (fun x => x * x) (-q.2, -q.1) = ov (fun x => x * x) q := by
  rw [← squares_ov h, ← squares_ov (q := (-q.2, -q.1)) (by simp only; omega)]
  simp only
  have h1 := sqTo_neg q.1
  have h2 := sqTo_neg (q.2 + 1)
  rw [show -(q.2 + 1) = -q.2 - 1 by omega, show q.2 + 1 - 1 = q.2 by omega] at h2
  omega
theorem sm_map (F : P2 → Int) (g : P2 → P2) (l : List P2) : sm F (l.map g) = sm (fun q => F (g q)) l := by
  unfold sm
  rw [List.map_map]
  rfl
theorem all_mirrored {hs gs : List P2} (h : Ok hs) (e : gs = hs.map fun q => (-q.1, q.2)) (st : stretches gs = (stretches hs).reverse.map fun q => (-q.2, -q.1)) : allF gs = allF hs := by
  have c := (stretches_ok h).1
  unfold allF
  rw [st, sm_map, sm_rev, sm_congr (G := ov fun x => x * x) fun q hq => ov_mir (c.ne q hq), e, sm_map]
  congr 2
  exact sm_congr fun q _ => by simp only; grind
theorem S_shift (φ : Int → Int) (f k : Int) : ∀ m : Nat, S φ (f + k) m = S (fun x => φ (x + k)) f m
  | 0 => rfl
  | m + 1 => by
    show S φ (f + k) m + φ (f + k + m) = S (fun x => φ (x + k)) f m + φ (f + m + k)
    rw [S_shift φ f k m, show f + k + (m : Int) = f + m + k by omega]
theorem S_congrA {φ ψ : Int → Int} (h : ∀ x, φ x = ψ x) (f : Int) (m : Nat) : S φ f m = S ψ f m := by
  rw [show φ = ψ from funext h]
theorem ov_mv (k : Int) (q : P2) : ov (fun x => x * x) (q.1 + k, q.2 + k) = ov (fun x => x * x) q + (2 * k * ov (fun x => x) q + k * k * ov (fun _ => 1) q) := by
  unfold ov
  simp only
  rw [show q.2 + k - (q.1 + k) + 1 = q.2 - q.1 + 1 by omega, S_shift]
  generalize (q.2 - q.1 + 1).toNat = m
  have h1 := S_lin 1 1 (fun x => x * x) (fun x => 2 * k * x + k * k * 1) q.1 m
  have h2 := S_lin (2 * k) (k * k) (fun x => x) (fun _ => 1) q.1 m
  rw [← h2]
  rw [Int.one_mul, Int.one_mul] at h1
  rw [← h1]
  exact S_congrA (fun x => by grind) _ _
theorem all_moved {hs gs : List P2} (h : Ok hs) (k : Int) (e : gs = hs.map fun q => (q.1 + k, q.2)) (st : stretches gs = (stretches hs).map fun q => (q.1 + k, q.2 + k)) : allF gs = allF hs := by
  obtain ⟨c, es⟩ := stretches_ok h
  obtain ⟨pm, s⟩ := stack_ok h
  have c1 : sm (ov fun _ => 1) (stretches hs) = sm (·.2) hs := by rw [es, sm_congr (G := (·.1)) fun b hb => BT_one (s.ok.pos b hb), s.cnt]
  have c2 : sm (ov fun x => x) (stretches hs) = sm (fun h => h.2 * h.1) hs := by rw [es, sm_congr (G := (·.2)) fun b hb => BT_id (s.ok.pos b hb), s.tot]
  have a : sm (ov fun x => x * x) (stretches gs) = sm (ov fun x => x * x) (stretches hs) + (2 * k * sm (fun h => h.2 * h.1) hs + k * k * sm (·.2) hs) := by
    rw [st, sm_map, sm_congr (G := fun q => ov (fun x => x * x) q + (2 * k * ov (fun x => x) q + k * k * ov (fun _ => 1) q)) fun q _ => ov_mv k q, sm_addF, sm_addF, sm_scale, sm_scale, c1, c2]
  have b : sm (fun h => h.2 * h.1 * h.1) gs = sm (fun h => h.2 * h.1 * h.1) hs + (2 * k * sm (fun h => h.2 * h.1) hs + k * k * sm (·.2) hs) := by
    rw [e, sm_map, sm_congr (G := fun q => q.2 * q.1 * q.1 + (2 * k * (q.2 * q.1) + k * k * q.2)) fun q _ => by simp only; grind, sm_addF, sm_addF, sm_scale, sm_scale]
  unfold allF
  rw [a, b]
  congr 1
  omega
/-! ### each chip by itself -/
def chips (q : P2) : List P2 := (List.range (q.2 - q.1 + 1).toNat).map fun (i : Nat) => (q.1 + (i : Int), (1 : Int))
def chipsOf (ps : List P2) : List P2 := ps.flatMap chips
theorem chips_sm {F : P2 → Int} {φ : Int → Int} (h : ∀ x, F (x, 1) = φ x) (q : P2) : sm F (chips q) = ov φ q := by
  unfold chips ov
  generalize (q.2 - q.1 + 1).toNat = m
  induction m with
  | zero => rfl
  | succ m ih =>
    rw [List.range_succ, List.map_append, sm_append, ih]
    show S φ q.1 m + sm F [(q.1 + (m : Int), 1)] = S φ q.1 m + φ (q.1 + m)
    rw [sm_cons, sm_nil, h]
    omega
theorem chipsOf_sm {F : P2 → Int} {φ : Int → Int} (h : ∀ x, F (x, 1) = φ x) : ∀ ps : List P2, sm F (chipsOf ps) = sm (ov φ) ps
  | [] => rfl
  | q :: r => by
    show sm F (chips q ++ chipsOf r) = _
    rw [sm_append, sm_cons, chips_sm h, chipsOf_sm h r]
theorem chipsOf_ok (ps : List P2) : Ok (chipsOf ps) := by
  intro h hh
  obtain ⟨q, _, hq⟩ := List.mem_flatMap.mp hh
  unfold chips at hq
  obtain ⟨i, _, rfl⟩ := List.mem_map.mp hq
  simp only
  omega
theorem chipsOf_had {ps : List P2} (c : Can ps) (x : Int) : hadF (chipsOf ps) x = hs01 ps x := by
  unfold hadF
  rw [chipsOf_sm (φ := dl x) (fun y => rfl), has_sum c]
  rfl
theorem hadF_app (l m : List P2) (x : Int) : hadF (l ++ m) x = hadF l x + hadF m x := sm_append _ _ _
theorem all_later {ss ms : List P2} (s : Ok ss) (m : Ok ms) : stretches (chipsOf (stretches ss) ++ ms) = stretches (ss ++ ms) ∧ allF (chipsOf (stretches ss) ++ ms) + allF ss = allF (ss ++ ms) ∧ ∀ x, gaveF (ss ++ ms) x = gaveF ss x + gaveF (chipsOf (stretches ss) ++ ms) x := by
  have c := (stretches_ok s).1
  have rs := chipsOf_ok (stretches ss)
  have t : Ok (ss ++ ms) := fun x hx => by rcases List.mem_append.mp hx with hx | hx; exact s x hx; exact m x hx
  have n : Ok (chipsOf (stretches ss) ++ ms) := fun x hx => by rcases List.mem_append.mp hx with hx | hx; exact rs x hx; exact m x hx
  obtain ⟨h1, h2⟩ := later s m rs t n (chipsOf_had c) (hadF_app ss ms) (hadF_app _ ms)
  refine ⟨h2, ?_, h1⟩
  have a1 := allF_two s
  have a2 := allF_two t
  have a3 := allF_two n
  rw [h2, sm_append, chipsOf_sm (φ := fun x => x * x) (fun x => by simp)] at a3
  rw [sm_append] at a2
  omega
theorem chipsOf_len {ss : List P2} (s : Ok ss) : ((chipsOf (stretches ss)).length : Int) = sm (·.2) ss := by
  have c := (stretches_ok s).1
  rw [← stretch_count s]
  have hl : ∀ l : List P2, (l.length : Int) = sm (fun _ => 1) l := by
    intro l
    induction l with
    | nil => rfl
    | cons x r ih => rw [sm_cons, List.length_cons]; omega
  rw [hl, chipsOf_sm (φ := fun _ => 1) (fun _ => rfl)]
  exact sm_congr fun p hp => ov_one (c.ne p hp)
theorem hadF_map_mv (k : Int) (hs : List P2) (x : Int) : hadF (hs.map fun q => (q.1 + k, q.2)) (x + k) = hadF hs x := by
  unfold hadF
  rw [sm_map]
  refine sm_congr fun q _ => ?_
  simp only
  repeat' split
  all_goals omega
theorem hadF_map_mir (hs : List P2) (x : Int) : hadF (hs.map fun q => (-q.1, q.2)) (-x) = hadF hs x := by
  unfold hadF
  rw [sm_map]
  refine sm_congr fun q _ => ?_
  simp only
  repeat' split
  all_goals omega
theorem hadF_rev (hs : List P2) (x : Int) : hadF hs.reverse x = hadF hs x := sm_rev _ _
theorem hadF_cut (hs : List P2) (x : Int) : hadF ((hs.map fun q => (q.1, q.2 / 3)) ++ hs.map fun q => (q.1, q.2 - q.2 / 3)) x = hadF hs x := by
  rw [hadF_app]
  unfold hadF
  rw [sm_map, sm_map, ← sm_addF]
  refine sm_congr fun q _ => ?_
  simp only
  split <;> omega
end Mth

set_option Elab.async false
namespace Mth
/-! ### pairs that have a key each: what a dict of whole numbers holds -/
def putP : List P2 → Int → Int → List P2
  | [], x, v => [(x, v)]
  | q :: r, x, v => if q.1 = x then (x, v) :: r else q :: putP r x v
def Kn (ps : List P2) : Prop := (ps.map (·.1)).Nodup
theorem putP_keys (x v y : Int) : ∀ ps : List P2, y ∈ (putP ps x v).map (·.1) ↔ y = x ∨ y ∈ ps.map (·.1)
  | [] => by simp [putP]
  | q :: r => by
    unfold putP
    split
    · rename_i c
      simp only [List.map_cons, List.mem_cons]
      rw [c]
      constructor
      · rintro (h | h)
        · exact .inl h
        · exact .inr (.inr h)
      · rintro (h | h | h)
        · exact .inl h
        · exact .inl h
        · exact .inr h
    · simp only [List.map_cons, List.mem_cons]
      rw [putP_keys x v y r]
      constructor
      · rintro (h | h | h)
        · exact .inr (.inl h)
        · exact .inl h
        · exact .inr (.inr h)
      · rintro (h | h | h)
        · exact .inr (.inl h)
        · exact .inl h
        · exact .inr (.inr h)
theorem putP_kn {x v : Int} : ∀ {ps : List P2}, Kn ps → Kn (putP ps x v)
  | [], _ => by unfold Kn putP; simp
  | q :: r, h => by
    unfold Kn at *
    rw [List.map_cons, List.nodup_cons] at h
    unfold putP
    split
    · rename_i c
      rw [List.map_cons, List.nodup_cons]
      exact ⟨by rw [← c]; exact h.1, h.2⟩
    · rename_i c
      rw [List.map_cons, List.nodup_cons]
      refine ⟨fun z => ?_, putP_kn h.2⟩
      rcases (putP_keys x v q.1 r).mp z with e | e
      · exact c e
      · exact h.1 e
theorem had_no {x : Int} : ∀ {ps : List P2}, x ∉ ps.map (·.1) → hadF ps x = 0
  | [], _ => rfl
  | q :: r, h => by
    rw [List.map_cons, List.mem_cons] at h
    show sm _ (q :: r) = 0
    rw [sm_cons, if_neg fun e => h (.inl e.symm)]
    have := had_no (ps := r) fun z => h (.inr z)
    unfold hadF at this
    omega
theorem had_cons (q : P2) (r : List P2) (x : Int) : hadF (q :: r) x = (if q.1 = x then q.2 else 0) + hadF r x := by unfold hadF; rw [sm_cons]
theorem had_at {x v : Int} : ∀ {ps : List P2}, Kn ps → (x, v) ∈ ps → hadF ps x = v
  | [], _, h => nomatch h
  | q :: r, k, h => by
    unfold Kn at k
    rw [List.map_cons, List.nodup_cons] at k
    rw [had_cons]
    rcases List.mem_cons.mp h with rfl | h
    · rw [if_pos rfl, had_no k.1]; omega
    · rw [had_at k.2 h, if_neg (fun (e : q.1 = x) => k.1 (e ▸ List.mem_map.mpr ⟨_, h, rfl⟩))]
      omega
def wt (φ : Int → Int) (h : P2) : Int := h.2 * φ h.1
theorem putP_sm (φ : Int → Int) (x v : Int) : ∀ {ps : List P2}, Kn ps → sm (wt φ) (putP ps x v) = sm (wt φ) ps + (v - hadF ps x) * φ x
  | [], _ => by
    show sm (wt φ) [(x, v)] = 0 + (v - 0) * φ x
    rw [sm_cons, sm_nil]
    unfold wt
    simp
  | q :: r, h => by
    unfold Kn at h
    rw [List.map_cons, List.nodup_cons] at h
    rw [had_cons]
    unfold putP
    split
    · rename_i c
      rw [sm_cons, sm_cons, had_no (by rw [← c]; exact h.1)]
      unfold wt
      rw [c]
      grind
    · rw [sm_cons, sm_cons, putP_sm φ x v h.2]
      grind
theorem had_wt (l : List P2) (y : Int) : hadF l y = sm (wt fun z => if z = y then 1 else 0) l := by
  unfold hadF
  refine sm_congr fun q _ => ?_
  unfold wt
  split
  · rename_i c
    simp [c]
  · rename_i c
    simp [c]
theorem had_put {ps : List P2} (h : Kn ps) (x v y : Int) : hadF (putP ps x v) y = if y = x then v else hadF ps y := by
  rw [had_wt, putP_sm _ x v h, ← had_wt]
  by_cases e : y = x
  · subst e; simp; omega
  · rw [if_neg (fun z => e z.symm), if_neg e]; simp
theorem sq2_wt (l : List P2) : sm sq2 l = sm (wt fun x => x * x) l := sm_congr fun q _ => by unfold sq2 wt; rw [Int.mul_assoc]
theorem one_wt (l : List P2) : sm (·.2) l = sm (wt fun _ => 1) l := sm_congr fun q _ => by unfold wt; simp
/-! the same at each place: the same sums -/
theorem S_at (a : P2) (φ : Int → Int) (f : Int) : ∀ m : Nat, S (fun x => (if a.1 = x then a.2 else 0) * φ x) f m = if f ≤ a.1 ∧ a.1 < f + m then a.2 * φ a.1 else 0
  | 0 => by
    show (0 : Int) = _
    rw [if_neg (by omega)]
  | m + 1 => by
    show S (fun x => (if a.1 = x then a.2 else 0) * φ x) f m + (if a.1 = f + m then a.2 else 0) * φ (f + m) = _
    rw [S_at a φ f m]
    by_cases e : a.1 = f + m
    · rw [if_pos e, if_neg (by omega), if_pos (by omega), e]; omega
    · rw [if_neg e]
      by_cases c : f ≤ a.1 ∧ a.1 < f + m
      · rw [if_pos c, if_pos (by omega)]; simp
      · rw [if_neg c, if_neg (by omega)]; simp
theorem S_null (f : Int) : ∀ m : Nat, S (fun _ => 0) f m = 0
  | 0 => rfl
  | m + 1 => by show S (fun _ => 0) f m + 0 = 0; rw [S_null f m]; rfl
theorem had_all (φ : Int → Int) (f : Int) (m : Nat) : ∀ {l : List P2}, (∀ q ∈ l, f ≤ q.1 ∧ q.1 < f + m) → sm (wt φ) l = S (fun x => hadF l x * φ x) f m
  | [], _ => by
    rw [sm_nil, S_congrA (ψ := fun _ => 0) (fun x => by show (0 : Int) * φ x = 0; simp), S_null]
  | a :: r, h => by
    rw [sm_cons, had_all φ f m fun q hq => h q (List.mem_cons_of_mem _ hq)]
    have h1 := S_lin 1 1 (fun x => (if a.1 = x then a.2 else 0) * φ x) (fun x => hadF r x * φ x) f m
    rw [S_at, if_pos (h a List.mem_cons_self), Int.one_mul, Int.one_mul] at h1
    show a.2 * φ a.1 + _ = _
    rw [← h1]
    exact S_congrA (fun x => by rw [had_cons]; grind) _ _
theorem same_wt {l k : List P2} (φ : Int → Int) (h : ∀ x, hadF l x = hadF k x) : sm (wt φ) l = sm (wt φ) k := by
  have sp : ∀ l : List P2, ∃ A B : Int, ∀ q ∈ l, A ≤ q.1 ∧ q.1 ≤ B := by
    intro l
    induction l with
    | nil => exact ⟨0, 0, fun _ h => nomatch h⟩
    | cons a r ih =>
      obtain ⟨A, B, h⟩ := ih
      refine ⟨if A < a.1 then A else a.1, if a.1 < B then B else a.1, fun q hq => ?_⟩
      rcases List.mem_cons.mp hq with rfl | hq
      · constructor <;> split <;> omega
      · have := h q hq
        constructor <;> split <;> omega
  obtain ⟨A, B, hA⟩ := sp (l ++ k)
  rw [had_all φ A (B - A + 1).toNat (l := l) fun q hq => by have := hA q (List.mem_append_left _ hq); omega, had_all φ A (B - A + 1).toNat (l := k) fun q hq => by have := hA q (List.mem_append_right _ hq); omega]
  exact S_congrA (fun x => by rw [h]) _ _
/-! ### giving one by one -/
structure Gv (hs ps ts : List P2) : Prop where
  np : Kn ps
  nt : Kn ts
  lap : ∀ x, hadF ps x = hadF hs x + hadF ts (x - 1) + hadF ts (x + 1) - 2 * hadF ts x
  pos : ∀ x, 0 ≤ hadF ps x
  w0 : ∀ x, 0 ≤ hadF ts x
  wu : ∀ x, hadF ts x ≤ gaveF hs x
  sq : sm sq2 ps = sm sq2 hs + 2 * sm (·.2) ts
def give (ps : List P2) (x : Int) : List P2 :=
  putP (putP (putP ps x (hadF ps x - 2)) (x - 1) (hadF (putP ps x (hadF ps x - 2)) (x - 1) + 1)) (x + 1) (hadF (putP (putP ps x (hadF ps x - 2)) (x - 1) (hadF (putP ps x (hadF ps x - 2)) (x - 1) + 1)) (x + 1) + 1)
theorem give_kn {ps : List P2} (h : Kn ps) (x : Int) : Kn (give ps x) := putP_kn (putP_kn (putP_kn h))
theorem give_had {ps : List P2} (h : Kn ps) (x y : Int) : hadF (give ps x) y = hadF ps y + (if y = x - 1 then 1 else 0) + (if y = x + 1 then 1 else 0) - (if y = x then 2 else 0) := by
  unfold give
  rw [had_put (putP_kn (putP_kn h)), had_put (putP_kn h), had_put (putP_kn h), had_put h, had_put h, had_put h]
  by_cases e1 : y = x + 1
  · subst e1
    rw [if_pos rfl, if_neg (by omega), if_neg (by omega), if_neg (by omega), if_pos rfl, if_neg (by omega)]
    omega
  · rw [if_neg e1]
    by_cases e2 : y = x - 1
    · subst e2
      rw [if_pos rfl, if_neg (by omega), if_pos rfl, if_neg (by omega), if_neg (by omega)]
      omega
    · rw [if_neg e2]
      by_cases e3 : y = x
      · subst e3
        rw [if_pos rfl, if_neg (by omega), if_neg (by omega), if_pos rfl]
        omega
      · rw [if_neg e3, if_neg e2, if_neg e1, if_neg e3]
        omega
theorem give_sq {ps : List P2} (h : Kn ps) (x : Int) : sm sq2 (give ps x) = sm sq2 ps + 2 := by
  unfold give
  rw [sq2_wt, putP_sm _ _ _ (putP_kn (putP_kn h)), putP_sm _ _ _ (putP_kn h), putP_sm _ _ _ h, sq2_wt]
  grind
theorem give_keys {ps : List P2} {x y : Int} (hy : y ∈ (give ps x).map (·.1)) : y = x - 1 ∨ y = x ∨ y = x + 1 ∨ y ∈ ps.map (·.1) := by
  unfold give at hy
  rcases (putP_keys _ _ _ _).mp hy with e | hy
  · exact .inr (.inr (.inl e))
  · rcases (putP_keys _ _ _ _).mp hy with e | hy
    · exact .inl e
    · rcases (putP_keys _ _ _ _).mp hy with e | hy
      · exact .inr (.inl e)
      · exact .inr (.inr (.inr hy))
theorem Gv.less {hs ps ts : List P2} (ok : Ok hs) (g : Gv hs ps ts) {x : Int} (h : 2 ≤ hadF ps x) : hadF ts x < gaveF hs x := by
  have h1 := g.lap x
  have h2 := gave_lap1 ok x
  have h3 := g.wu x
  have h4 := g.wu (x - 1)
  have h5 := g.wu (x + 1)
  omega
theorem Gv.step {hs ps ts : List P2} (ok : Ok hs) (g : Gv hs ps ts) {x : Int} (h : 2 ≤ hadF ps x) : Gv hs (give ps x) (putP ts x (hadF ts x + 1)) := by
  have l := g.less ok h
  have ht := fun y => had_put g.nt x (hadF ts x + 1) y
  refine ⟨give_kn g.np x, putP_kn g.nt, fun y => ?_, fun y => ?_, fun y => ?_, fun y => ?_, ?_⟩
  · rw [give_had g.np, ht, ht, ht, g.lap y]
    by_cases e1 : y = x - 1
    · subst e1
      rw [if_pos rfl, if_neg (by omega), if_neg (by omega), if_neg (by omega), if_pos (by omega), if_neg (by omega), show x - 1 + 1 = x by omega]
      omega
    · by_cases e2 : y = x + 1
      · subst e2
        rw [if_neg e1, if_pos rfl, if_neg (by omega), if_pos (by omega), if_neg (by omega), if_neg (by omega), show x + 1 - 1 = x by omega]
        omega
      · by_cases e3 : y = x
        · subst e3
          rw [if_neg e1, if_neg e2, if_pos rfl, if_neg (by omega), if_neg (by omega), if_pos rfl]
          omega
        · rw [if_neg e1, if_neg e2, if_neg e3, if_neg (by omega), if_neg (by omega), if_neg e3]
          omega
  · rw [give_had g.np]
    have := g.pos y
    repeat' split
    all_goals first | omega | (subst_vars; omega)
  · rw [ht]
    have := g.w0 y
    have := g.w0 x
    split <;> omega
  · rw [ht]
    have := g.wu y
    split
    · rename_i e
      rw [e]
      omega
    · exact this
  · rw [give_sq g.np, g.sq, one_wt, one_wt, putP_sm _ _ _ g.nt]
    omega
theorem Gv.done {hs ps ts : List P2} (ok : Ok hs) (g : Gv hs ps ts) (h : ∀ x, hadF ps x ≤ 1) : (∀ x, hadF ts x = gaveF hs x) ∧ (∀ x, hadF ps x = hs01 (stretches hs) x) ∧ sm (·.2) ts = allF hs := by
  have e : ∀ x, hadF ts x = gaveF hs x := fun x => by
    have h1 := least ok g.w0 (fun y => by have := g.lap y; have := h y; omega) x
    have := g.wu x
    omega
  have e2 : ∀ x, hadF ps x = hs01 (stretches hs) x := fun x => by rw [g.lap, e, e, e, ← gave_lap' ok]
  refine ⟨e, e2, ?_⟩
  have a := allF_two ok
  have c := (stretches_ok ok).1
  have b := same_wt (fun x => x * x) (l := ps) (k := chipsOf (stretches hs)) fun x => by rw [e2, chipsOf_had c]
  rw [← sq2_wt, chipsOf_sm (φ := fun x => x * x) (fun x => by unfold wt; simp)] at b
  have s := g.sq
  have : sm sq2 hs = sm (fun h => h.2 * h.1 * h.1) hs := rfl
  omega
/-- what is read in first -/
structure Rd0 (l ps : List P2) : Prop where
  np : Kn ps
  wt : ∀ φ, sm (wt φ) ps = sm (wt φ) l
  keys : ∀ y ∈ ps.map (·.1), y ∈ l.map (·.1)
theorem Rd0.nil : Rd0 [] [] := ⟨List.nodup_nil, fun _ => rfl, fun _ h => h⟩
theorem Rd0.had {l ps : List P2} (h : Rd0 l ps) (x : Int) : hadF ps x = hadF l x := by rw [had_wt, had_wt, h.wt]
theorem Rd0.snoc {l ps : List P2} (h : Rd0 l ps) (q : P2) : Rd0 (l ++ [q]) (putP ps q.1 (hadF ps q.1 + q.2)) := by
  refine ⟨putP_kn h.np, fun φ => ?_, fun y hy => ?_⟩
  · rw [putP_sm _ _ _ h.np, sm_append, sm_cons, sm_nil, h.wt]
    unfold Mth.wt
    grind
  · rw [List.map_append, List.mem_append]
    rcases (putP_keys _ _ _ _).mp hy with e | e
    · exact .inr (by simp [e])
    · exact .inl (h.keys y e)
theorem Gv.start {hs ps : List P2} (ok : Ok hs) (r : Rd0 hs ps) : Gv hs ps [] := by
  refine ⟨r.np, List.nodup_nil, fun x => ?_, fun x => ?_, fun _ => Int.le_refl _, fun x => gaveF_nonneg ok x, ?_⟩
  · rw [r.had]
    show _ = hadF hs x + 0 + 0 - 2 * 0
    omega
  · rw [r.had]
    clear r
    unfold hadF
    induction hs with
    | nil => exact Int.le_refl _
    | cons a l ih =>
      rw [sm_cons]
      have := ok a List.mem_cons_self
      have := ih fun b hb => ok b (List.mem_cons_of_mem _ hb)
      split <;> omega
  · rw [sq2_wt, r.wt, ← sq2_wt]
    show _ = _ + 2 * 0
    omega
/-- how much is left to give -/
def todo (hs ts : List P2) : Int := S (fun x => gaveF hs x - hadF ts x) (-20) 51
theorem S_pos {φ : Int → Int} (h : ∀ x, 0 ≤ φ x) (f : Int) : ∀ m : Nat, 0 ≤ S φ f m
  | 0 => Int.le_refl _
  | m + 1 => by
    show 0 ≤ S φ f m + φ (f + m)
    have := S_pos h f m
    have := h (f + m)
    omega
theorem Gv.todo0 {hs ps ts : List P2} (g : Gv hs ps ts) : 0 ≤ todo hs ts := S_pos (fun x => by have := g.wu x; omega) _ _
theorem todo_put {hs ps ts : List P2} (g : Gv hs ps ts) {x : Int} (h1 : -20 ≤ x) (h2 : x < 31) : todo hs (putP ts x (hadF ts x + 1)) = todo hs ts - 1 := by
  unfold todo
  have h3 := S_lin 1 (-1) (fun x => gaveF hs x - hadF ts x) (dl x) (-20) 51
  rw [S_dl, if_pos (by omega)] at h3
  rw [S_congrA (ψ := fun y => 1 * (gaveF hs y - hadF ts y) + -1 * dl x y) (fun y => by
    rw [had_put g.nt]
    unfold dl
    by_cases e : y = x
    · rw [if_pos e, if_pos e, e]; omega
    · rw [if_neg e, if_neg e]; omega), h3]
  omega
/-- keys of a short stretch of places are few -/
theorem few_keys : ∀ (n : Nat) (f : Int) (l : List Int), l.Nodup → (∀ x ∈ l, f ≤ x ∧ x < f + n) → l.length ≤ n
  | 0, f, l, _, h => by
    cases l with
    | nil => exact Nat.le_refl _
    | cons a r => have := h a List.mem_cons_self; omega
  | n + 1, f, l, hn, h => by
    have ih := few_keys n f (l.filter fun x => decide (x ≠ f + n)) (hn.filter _) fun x hx => by
      obtain ⟨h1, h2⟩ := List.mem_filter.mp hx
      have := h x h1
      have := of_decide_eq_true h2
      omega
    have key : ∀ l : List Int, l.Nodup → l.length ≤ (l.filter fun x => decide (x ≠ f + n)).length + 1 := by
      intro l
      induction l with
      | nil => intro _; exact Nat.zero_le _
      | cons a r ih =>
        intro hn
        obtain ⟨n1, n2⟩ := List.nodup_cons.mp hn
        by_cases c : a = f + n
        · rw [List.filter_cons_of_neg (by simpa using c)]
          have : r.filter (fun x => decide (x ≠ f + n)) = r := List.filter_eq_self.mpr fun x hx => by
            rw [decide_eq_true_eq]
            intro z
            exact n1 (c ▸ z ▸ hx)
          rw [this, List.length_cons]
          exact Nat.le_refl _
        · rw [List.filter_cons_of_pos (by simpa using c), List.length_cons, List.length_cons]
          have := ih n2
          omega
    have := key l hn
    omega
end Mth

set_option Elab.async false
set_option linter.all false
set_option maxRecDepth 100000
set_option maxHeartbeats 4000000
namespace Sp
open PySem L2 Mth
open Evl (Ex)

/-! ### pairs in the heap -/
abbrev II (p : P2) : HO := .tup [.int p.1, .int p.2]
def Tp (H : Hp) (v : V) (p : P2) : Prop := ∃ t, v = .ref t ∧ H t = some (II p)
abbrev Tps (H : Hp) : List V → List P2 → Prop := Paired (Tp H)
/-- a list of pairs at a -/
def PL (H : Hp) (a : Addr) (ps : List P2) : Prop := ∃ vs, H a = some (.lst vs) ∧ Tps H vs ps
section
variable {H H' : Hp} {v : V} {p q : P2} {vs ws : List V} {ps qs : List P2} {a l : Addr}
theorem Tp.mono (e : Ex H H') (h : Tp H v p) : Tp H' v p := by
  obtain ⟨t, e1, e2⟩ := h
  exact ⟨t, e1, e t _ e2⟩
theorem Tps.mono (e : Ex H H') (h : Tps H vs ps) : Tps H' vs ps := Paired.mapP h fun _ _ => Tp.mono e
theorem PL.mono (e : Ex H H') (h : PL H a ps) : PL H' a ps := by
  obtain ⟨vs, e1, e2⟩ := h
  exact ⟨vs, e a _ e1, Tps.mono e e2⟩
/-- a list may change, pairs stay -/
theorem Tp.upd {xs ys : List V} (hl : H l = some (.lst xs)) (h : Tp H v p) : Tp (L2.upd H l (.lst ys)) v p := by
  obtain ⟨t, e1, e2⟩ := h
  exact ⟨t, e1, by rw [upd_ne (ne_of e2 hl (by intro z; cases z))]; exact e2⟩
theorem Tps.upd {xs ys : List V} (hl : H l = some (.lst xs)) (h : Tps H vs ps) : Tps (L2.upd H l (.lst ys)) vs ps := Paired.mapP h fun _ _ => Tp.upd hl
theorem PL.upd {xs ys : List V} (hl : H l = some (.lst xs)) (h : PL H a ps) (ne : a ≠ l) : PL (L2.upd H l (.lst ys)) a ps := by
  obtain ⟨vs, e1, e2⟩ := h
  exact ⟨vs, by rw [upd_ne ne]; exact e1, e2.upd hl⟩
theorem pr_len {α β : Type} {F : α → β → Prop} {xs : List α} {ys : List β} (h : Paired F xs ys) : xs.length = ys.length := Paired.length h
theorem pr_get {α β : Type} {F : α → β → Prop} : ∀ {xs : List α} {ys : List β} {i : Nat} {x : α}, Paired F xs ys → xs[i]? = some x → ∃ y, ys[i]? = some y ∧ F x y
  | _, _, _, _, .nil, e => by simp at e
  | _, _, 0, _, .cons r _, e => by simp at e; subst e; exact ⟨_, rfl, r⟩
  | _, _, i + 1, x, .cons _ t, e => by
    obtain ⟨u, h1, h2⟩ := pr_get (i := i) (x := x) t (by simpa using e)
    exact ⟨u, by simpa using h1, h2⟩
theorem pr_get2 {α β : Type} {F : α → β → Prop} : ∀ {xs : List α} {ys : List β} {i : Nat} {y : β}, Paired F xs ys → ys[i]? = some y → ∃ x, xs[i]? = some x ∧ F x y
  | _, _, _, _, .nil, e => by simp at e
  | _, _, 0, _, .cons r _, e => by simp at e; subst e; exact ⟨_, rfl, r⟩
  | _, _, i + 1, x, .cons _ t, e => by
    obtain ⟨u, h1, h2⟩ := pr_get2 (i := i) (y := x) t (by simpa using e)
    exact ⟨u, by simpa using h1, h2⟩
theorem pr_app {α β : Type} {F : α → β → Prop} : ∀ {xs xs' : List α} {ys ys' : List β}, Paired F xs ys → Paired F xs' ys' → Paired F (xs ++ xs') (ys ++ ys')
  | _, _, _, _, .nil, s => s
  | _, _, _, _, .cons r t, s => .cons r (pr_app t s)
theorem pr_take {α β : Type} {F : α → β → Prop} : ∀ {xs : List α} {ys : List β} (n : Nat), Paired F xs ys → Paired F (xs.take n) (ys.take n)
  | _, _, 0, _ => .nil
  | _, _, _ + 1, .nil => .nil
  | _, _, n + 1, .cons r t => .cons r (pr_take n t)
theorem pr_drop {α β : Type} {F : α → β → Prop} : ∀ {xs : List α} {ys : List β} (n : Nat), Paired F xs ys → Paired F (xs.drop n) (ys.drop n)
  | _, _, 0, r => r
  | _, _, _ + 1, .nil => .nil
  | _, _, n + 1, .cons _ t => pr_drop n t
theorem pr_rev {α β : Type} {F : α → β → Prop} : ∀ {xs : List α} {ys : List β}, Paired F xs ys → Paired F xs.reverse ys.reverse
  | _, _, .nil => .nil
  | _, _, .cons r t => by
    rw [List.reverse_cons, List.reverse_cons]
    exact pr_app (pr_rev t) (.cons r .nil)
theorem pr_set {α β : Type} {F : α → β → Prop} : ∀ {xs : List α} {ys : List β} (n : Nat) {x : α} {y : β}, Paired F xs ys → F x y → Paired F (xs.set n x) (ys.set n y)
  | _, _, _, _, _, .nil, _ => .nil
  | _, _, 0, _, _, .cons _ t, h => .cons h t
  | _, _, n + 1, _, _, .cons r t, h => .cons r (pr_set n t h)
theorem Ex_upd_new {o : HO} (h : H l = none) : Ex H (L2.upd H l o) := Evl.Ex.new h
theorem Ex.free (e : Ex H H') (h : H' l = none) : H l = none := Evl.fresh_back e h

/-! ### == of lists of pairs -/
def tD (p : P2) : PyData := .tuple [.int p.1, .int p.2]
theorem tp_dp {K : PySem.W.Frag} (h : Tp H v p) : Dp K H v (tD p) := by
  obtain ⟨t, rfl, e⟩ := h
  exact .tup (SqT.of e) (.cons (.int _) (.cons (.int _) .nil))
theorem tps_dp {K : PySem.W.Frag} : ∀ {vs : List V} {ps : List P2}, Tps H vs ps → DpAll K H vs (ps.map tD)
  | _, _, .nil => .nil
  | _, _, .cons r t => .cons (tp_dp r) (tps_dp t)
theorem pl_dp {K : PySem.W.Frag} (h : PL H a ps) : Dp K H (.ref a) (.list (ps.map tD)) := by
  obtain ⟨vs, e1, e2⟩ := h
  exact .lst (SqL.of e1) (tps_dp e2)
theorem eqv_tD (p q : P2) : PyData.eqv (tD p) (tD q) = decide (p = q) := by
  obtain ⟨a, b⟩ := p
  obtain ⟨c, d⟩ := q
  unfold tD
  simp only [PyData.eqv, PyData.eqvAll, Bool.and_true]
  rw [Bool.eq_iff_iff]
  simp
theorem eqv_all : ∀ ps qs : List P2, PyData.eqvAll (ps.map tD) (qs.map tD) = decide (ps = qs)
  | [], [] => by simp [PyData.eqvAll]
  | [], _ :: _ => by simp [PyData.eqvAll]
  | _ :: _, [] => by simp [PyData.eqvAll]
  | x :: xs, y :: ys => by
    rw [List.map_cons, List.map_cons, PyData.eqvAll, eqv_tD x y, eqv_all xs ys, ← Bool.decide_and]
    exact decide_eq_decide.mpr (by rw [List.cons.injEq])
theorem eqv_pl (ps qs : List P2) : PyData.eqv (.list (ps.map tD)) (.list (qs.map tD)) = decide (ps = qs) := by
  simp only [PyData.eqv]
  exact eqv_all ps qs
theorem lay_all : ∀ ps : List P2, PyData.canLayAll0 (ps.map tD) = true
  | [] => rfl
  | x :: xs => by
    rw [List.map_cons, PyData.canLayAll0, lay_all xs]
    rfl
theorem dep_all : ∀ ps : List P2, PyData.depthAll (ps.map tD) ≤ 1
  | [] => Nat.zero_le _
  | x :: xs => by
    rw [List.map_cons, PyData.depthAll]
    refine Nat.max_le.mpr ⟨?_, dep_all xs⟩
    unfold tD
    simp [PyData.depth, PyData.depthAll]
theorem shp (ps : List P2) : SeqAt.shaped (.list (ps.map tD)) = true := by
  unfold SeqAt.shaped
  rw [Bool.and_eq_true]
  refine ⟨?_, decide_eq_true ?_⟩
  · show PyData.canLay0 (.list (ps.map tD)) = true
    rw [PyData.canLay0]
    exact lay_all ps
  · rw [PyData.depth]
    have := dep_all ps
    omega
theorem eq_PL {K : PySem.W.Frag} {b : Addr} {Q : VK} (h1 : PL H a ps) (h2 : PL H b qs) (k : Q (.bl (decide (ps = qs))) H) : rEqD K (.ref a) (.ref b) H Q :=
  ⟨_, _, pl_dp h1, pl_dp h2, shp ps, shp qs, by rw [eqv_pl]; exact k⟩
theorem ne_PL {K : PySem.W.Frag} {b : Addr} {Q : VK} (h1 : PL H a ps) (h2 : PL H b qs) (k : Q (.bl (!decide (ps = qs))) H) : rNeD K (.ref a) (.ref b) H Q :=
  ⟨_, _, pl_dp h1, pl_dp h2, shp ps, shp qs, by rw [eqv_pl]; exact k⟩
end

/-! ### a def that may be called by its name -/
structure Cl (P : Program) (w : World) (K : PySem.W.Frag) (mg : Str → Option Value) (base : Heap) (nm : Str) (k : Nat) (ps : List Str) (sp : Sp) (f : Addr) (fd : FuncData) : Prop where
  F : FnOk P w K mg base CX0 k f fd ps sp
  g : mg nm = some (.ref f)
  kp : PySem.W.keepIn K (.ref f) = true
  b : Binds K fd ps []

/-! ### values of whole numbers -/
section
variable {σ : St} {H : Hp} {ta tb te tc : TE} {x y : V} {v : V} {i : Nat} {D : Ends} {tz t1 t2 : TS} {t u : TT} {b c : Bool}
theorem v_op0 {g : Int → Int → V} {i j : Int} (ha : Val ta σ H (.int i)) (hb : Val tb σ H (.int j)) : Val (tOp (rI0 g) ta tb) σ H (g i j) := val_op ha hb fun _ q => ⟨i, j, rfl, rfl, q⟩
theorem v_op {C : Int → Int → Prop} {g : Int → Int → V} {i j : Int} (ha : Val ta σ H (.int i)) (hb : Val tb σ H (.int j)) (hc : C i j) : Val (tOp (rI C g) ta tb) σ H (g i j) := val_op ha hb fun _ q => ⟨i, j, rfl, rfl, hc, q⟩
theorem v_neg {i : Int} (ha : Val ta σ H (.int i)) : Val (tUn (rU fun i => .int (-i)) ta) σ H (.int (-i)) := fun _ q => ha _ ⟨i, rfl, q⟩
theorem v_is (h : Val te σ H x) (e : x = y) : Val te σ H y := e ▸ h
theorem v_and {a b : Bool} (h1 : Val ta σ H (.bl a)) (h2 : a = true → Val tb σ H (.bl b)) : Val (tAndV ta tb) σ H (.bl (a && b)) := fun Q q => h1 _ ⟨a, rfl, by
  cases a with
  | true => exact h2 rfl Q q
  | false => exact q⟩
theorem v_or {a b : Bool} (h1 : Val ta σ H (.bl a)) (h2 : a = false → Val tb σ H (.bl b)) : Val (tOrV ta tb) σ H (.bl (a || b)) := fun Q q => h1 _ ⟨a, rfl, by
  cases a with
  | true => exact q
  | false => exact h2 rfl Q q⟩
theorem v_not {a : Bool} (h : Val ta σ H (.bl a)) : Val (tNotV ta) σ H (.bl (!a)) := fun Q q => h _ ⟨a, rfl, q⟩
theorem v_eq (ha : Val ta σ H x) (hb : Val tb σ H y) (hs : scal x y = true) : Val (tOp rEq ta tb) σ H (.bl (decide (x = y))) := val_op ha hb fun _ q => ⟨hs, q⟩
theorem v_ne (ha : Val ta σ H x) (hb : Val tb σ H y) (hs : scal x y = true) : Val (tOp rNe ta tb) σ H (.bl (!decide (x = y))) := val_op ha hb fun _ q => ⟨hs, q⟩
theorem v_tup {K : PySem.W.Frag} {a : Addr} {xs : List V} {i : Int} (ha : Val ta σ H (.ref a)) (hb : Val tb σ H (.int i)) (h : H a = some (.tup xs)) (hi : atI xs i = some v) : Val (tOp (rIxT K) ta tb) σ H v := val_op ha hb fun _ q => ⟨a, xs, i, v, rfl, rfl, SqT.of h, hi, q⟩
theorem v_lst {K : PySem.W.Frag} {a : Addr} {xs : List V} {i : Int} (ha : Val ta σ H (.ref a)) (hb : Val tb σ H (.int i)) (h : H a = some (.lst xs)) (hi : atI xs i = some v) : Val (tOp (rIxL K) ta tb) σ H v := val_op ha hb fun _ q => ⟨a, xs, i, v, rfl, rfl, SqL.of h, hi, q⟩
theorem v_lstq {K : PySem.W.Frag} {a : Addr} {xs : List V} {i : Int} (ha : Val ta σ H (.ref a)) (hb : Val tb σ H (.int i)) (h : SqL K H a xs) (hi : atI xs i = some v) : Val (tOp (rIxL K) ta tb) σ H v := val_op ha hb fun _ q => ⟨a, xs, i, v, rfl, rfl, h, hi, q⟩
theorem v_if (h : Ans t σ H b) (h1 : b = true → Val ta σ H v) (h2 : b = false → Val tb σ H v) : Val (tIf t ta tb) σ H v := fun Q q => h _ (by
  cases b with
  | true => exact h1 rfl Q q
  | false => exact h2 rfl Q q)
theorem a_val (h : Val te σ H (.bl b)) : Ans (tTest te) σ H b := fun _ q => h _ ⟨b, rfl, q⟩
theorem a_valB (h : Val te σ H (.bl b)) : Ans (tB te) σ H b := fun _ q => h _ ⟨b, rfl, q⟩
theorem a_and {a b : Bool} (h1 : Ans t σ H a) (h2 : a = true → Ans u σ H b) : Ans (tAnd t u) σ H (a && b) := fun Q q => h1 _ (by
  cases a with
  | true => exact h2 rfl Q q
  | false => exact q)
theorem a_or {a b : Bool} (h1 : Ans t σ H a) (h2 : a = false → Ans u σ H b) : Ans (tOr t u) σ H (a || b) := fun Q q => h1 _ (by
  cases a with
  | true => exact q
  | false => exact h2 rfl Q q)
theorem v_add {i j : Int} (ha : Val ta σ H (.int i)) (hb : Val tb σ H (.int j)) : Val (tOp (rI0 fun i j => .int (i + j)) ta tb) σ H (.int (i + j)) := v_op0 (g := fun i j => .int (i + j)) ha hb
theorem v_sub {i j : Int} (ha : Val ta σ H (.int i)) (hb : Val tb σ H (.int j)) : Val (tOp (rI0 fun i j => .int (i - j)) ta tb) σ H (.int (i - j)) := v_op0 (g := fun i j => .int (i - j)) ha hb
theorem v_lt {i j : Int} (ha : Val ta σ H (.int i)) (hb : Val tb σ H (.int j)) : Val (tOp (rI0 fun i j => .bl (decide (i < j))) ta tb) σ H (.bl (decide (i < j))) := v_op0 (g := fun i j => .bl (decide (i < j))) ha hb
theorem v_le {i j : Int} (ha : Val ta σ H (.int i)) (hb : Val tb σ H (.int j)) : Val (tOp (rI0 fun i j => .bl (decide (i ≤ j))) ta tb) σ H (.bl (decide (i ≤ j))) := v_op0 (g := fun i j => .bl (decide (i ≤ j))) ha hb
theorem v_gt {i j : Int} (ha : Val ta σ H (.int i)) (hb : Val tb σ H (.int j)) : Val (tOp (rI0 fun i j => .bl (decide (j < i))) ta tb) σ H (.bl (decide (j < i))) := v_op0 (g := fun i j => .bl (decide (j < i))) ha hb
theorem v_ge {i j : Int} (ha : Val ta σ H (.int i)) (hb : Val tb σ H (.int j)) : Val (tOp (rI0 fun i j => .bl (decide (j ≤ i))) ta tb) σ H (.bl (decide (j ≤ i))) := v_op0 (g := fun i j => .bl (decide (j ≤ i))) ha hb
theorem v_mul {i j : Int} (ha : Val ta σ H (.int i)) (hb : Val tb σ H (.int j)) (hc : CMul i j) : Val (tOp (rI CMul fun i j => .int (i * j)) ta tb) σ H (.int (i * j)) := v_op (g := fun i j => .int (i * j)) ha hb hc
theorem v_mulW {i j : Int} (ha : Val ta σ H (.int i)) (hb : Val tb σ H (.int j)) (hc : CMulW i j) : Val (tOp (rI CMulW fun i j => .int (i * j)) ta tb) σ H (.int (i * j)) := v_op (g := fun i j => .int (i * j)) ha hb hc
theorem v_div {i j : Int} (ha : Val ta σ H (.int i)) (hb : Val tb σ H (.int j)) (hc : CDiv i j) : Val (tOp (rI CDiv fun i j => .int (i / j)) ta tb) σ H (.int (i / j)) := v_op (g := fun i j => .int (i / j)) ha hb hc
theorem v_divW {i j : Int} (ha : Val ta σ H (.int i)) (hb : Val tb σ H (.int j)) (hc : CDivW i j) : Val (tOp (rI CDivW fun i j => .int (i / j)) ta tb) σ H (.int (i / j)) := v_op (g := fun i j => .int (i / j)) ha hb hc
theorem v_mod {i j : Int} (ha : Val ta σ H (.int i)) (hb : Val tb σ H (.int j)) (hc : 0 < j) : Val (tOp (rI (fun _ j => 0 < j) fun i j => .int (i % j)) ta tb) σ H (.int (i % j)) := v_op (C := fun _ j => 0 < j) (g := fun i j => .int (i % j)) ha hb hc
theorem v_eqi {i j : Int} (ha : Val ta σ H (.int i)) (hb : Val tb σ H (.int j)) : Val (tOp rEq ta tb) σ H (.bl (decide (i = j))) := v_is (v_eq ha hb rfl) (by congr 1; rw [Bool.eq_iff_iff]; simp)
theorem v_nei {i j : Int} (ha : Val ta σ H (.int i)) (hb : Val tb σ H (.int j)) : Val (tOp rNe ta tb) σ H (.bl (!decide (i = j))) := v_is (v_ne ha hb rfl) (by congr 2; rw [Bool.eq_iff_iff]; simp)
theorem v_len {K : PySem.W.Frag} {a : Addr} {xs : List V} (ha : Val ta σ H (.ref a)) (h : SqL K H a xs) : Val (tCB (fun xs H Q => ∃ p ys, xs = [.ref p] ∧ (SqL K H p ys ∨ SqT K H p ys) ∧ Q (.int ys.length) H) (tCons ta tNil)) σ H (.int (xs.length : Int)) := fun _ q => ha _ ⟨a, xs, rfl, .inl h, q⟩
theorem mulR {i k : Int} (h : -(2 ^ 64) < k ∧ k < 2 ^ 64) : CMul i k := .inr h
theorem mulL {i k : Int} (h : -(2 ^ 64) < i ∧ i < 2 ^ 64) : CMul i k := .inl h
/-! statements, something behind -/
theorem z_set (h : Val te σ H v) (k : tz D (σ.set i (some v)) H) : tSeq (tAsg te (gName i)) tz D σ H := h _ k
theorem z_ret (h : Val te σ H v) (k : D.rt v H) : tRet te D σ H := h _ k
theorem z_if (h : Ans t σ H b) (h1 : b = true → t1 { D with nx := tz D } σ H) (h2 : b = false → t2 { D with nx := tz D } σ H) : tSeq (tIfS t t1 t2) tz D σ H := h _ (by
  cases b with
  | true => exact h1 rfl
  | false => exact h2 rfl)
theorem s_ifs (h : Ans t σ H b) (h1 : b = true → t1 D σ H) (h2 : b = false → t2 D σ H) : tIfS t t1 t2 D σ H := h _ (by
  cases b with
  | true => exact h1 rfl
  | false => exact h2 rfl)
theorem z_drop (h : Val te σ H v) (k : tz D σ H) : tSeq (tDrop te) tz D σ H := h _ k
/-- a pair that is laid -/
theorem t_pair {Q : VK} (ha : Val ta σ H x) (hb : ∀ H1, Ex H H1 → Val tb σ H1 y) (k : ∀ p, H p = none → Q (.ref p) (upd H p (.tup [x, y]))) : tTup (tCons ta (tCons tb tNil)) σ H Q :=
  ha _ ((hb H (Evl.Ex.refl H)) _ ⟨by show 2 ≤ sizeLine; decide, k⟩)
end
/-! ### how large numbers may be -/
def Bd (n : Nat) (i : Int) : Prop := i.natAbs < 2 ^ n
theorem Bd.mul {a b : Nat} {i j : Int} (ha : Bd a i) (hb : Bd b j) : Bd (a + b) (i * j) := wide_lt ha hb
theorem Bd.add {n : Nat} {i j : Int} (ha : Bd n i) (hb : Bd n j) : Bd (n + 1) (i + j) := by
  unfold Bd at *
  rw [Nat.pow_succ]
  omega
theorem Bd.mono {a b : Nat} {i : Int} (ha : Bd a i) (h : a ≤ b) : Bd b i := Nat.lt_of_lt_of_le ha (Nat.pow_le_pow_right (by decide) h)
theorem Bd.le {a : Nat} {i j : Int} (hj : Bd a j) (h : i.natAbs ≤ j.natAbs) : Bd a i := Nat.lt_of_le_of_lt h hj
theorem Bd.mulw {a b : Nat} {i j : Int} (ha : Bd a i) (hb : Bd b j) (h0 : 0 < a) (h1 : 0 < b) (h : a + b ≤ 1000000) : CMulW i j := wide_mul ha hb h0 h1 h
theorem Bd.divw {b : Nat} {i j : Int} (h : 0 < j) (hb : Bd b j) (h0 : 0 < b) (h9 : b ≤ 9000) : CDivW i j := wide_div h hb h0 h9
end Sp
namespace Sp
open PySem L2 Mth
open Evl (Ex)
/-! ### sorted, of pairs -/
def kOf (H : Hp) : V → P2
  | .ref t => match H t with
    | some (.tup [.int i, .int j]) => (i, j)
    | _ => (0, 0)
  | _ => (0, 0)
theorem kOf_tp {H : Hp} {v : V} {p : P2} (h : Tp H v p) : kOf H v = p := by
  obtain ⟨t, rfl, e⟩ := h
  unfold kOf
  simp only [e]
theorem kOf_map {H : Hp} : ∀ {vs : List V} {ps : List P2}, Tps H vs ps → vs.map (kOf H) = ps
  | _, _, .nil => rfl
  | _, _, .cons r t => by rw [List.map_cons, kOf_tp r, kOf_map t]
theorem tps_kOf {H : Hp} : ∀ {vs : List V}, (∀ v ∈ vs, ∃ p, Tp H v p) → Tps H vs (vs.map (kOf H))
  | [], _ => .nil
  | v :: vs, h => by
    obtain ⟨p, hp⟩ := h v List.mem_cons_self
    rw [List.map_cons]
    exact .cons (by rw [kOf_tp hp]; exact hp) (tps_kOf fun u hu => h u (List.mem_cons_of_mem _ hu))
theorem tps_mem {H : Hp} : ∀ {vs : List V} {ps : List P2}, Tps H vs ps → ∀ v ∈ vs, ∃ p, Tp H v p
  | _, _, .nil, _, h => nomatch h
  | _, _, .cons r t, v, h => by
    rcases List.mem_cons.mp h with rfl | h
    · exact ⟨_, r⟩
    · exact tps_mem t v h
theorem sorted_tps {H : Hp} {vs ys : List V} {ps : List P2} (h : Tps H vs ps) (s1 : SrtO.Srtd (ltP (kOf H)) ys) (s2 : SrtO.Stb (ltP (kOf H)) ys vs) : Tps H ys (sortP ps) := by
  have h1 : Tps H ys (ys.map (kOf H)) := tps_kOf fun v hv => tps_mem h v (s2.perm.mem_iff.mp hv)
  have e : ys.map (kOf H) = sortP ps := by
    refine sortP_eq ?_ ?_
    · have := s2.perm.map (kOf H)
      rw [kOf_map h] at this
      exact this
    · refine List.pairwise_map.mpr (List.Pairwise.imp ?_ s1)
      intro a b hab
      have := SrtO.lexB_no.mp hab
      unfold leP
      simp only [Bool.or_eq_true, Bool.and_eq_true, decide_eq_true_eq]
      omega
  rw [← e]
  exact h1
theorem do_sorted {K : PySem.W.Frag} {H : Hp} {a : Addr} {ps : List P2} {Q : VK} (h : PL H a ps) (k : ∀ p ys, H p = none → Tps H ys (sortP ps) → Q (.ref p) (upd H p (.lst ys))) : rSortedPO K [.ref a] H Q := by
  obtain ⟨vs, e1, e2⟩ := h
  refine ⟨a, vs, kOf H, rfl, SqL.of e1, fun x hx => ?_, fun ys p s1 s2 hp => k p ys hp (sorted_tps e2 s1 s2)⟩
  obtain ⟨p, hp⟩ := tps_mem e2 x hx
  rw [kOf_tp hp]
  exact hp
/-- a, b = pair -/
theorem g_pair {K : PySem.W.Frag} {H : Hp} {v : V} {p : P2} {σ : St} {i j : Nat} {Q : St → Hp → Prop} (h : Tp H v p) (k : Q ((σ.set i (some (.int p.1))).set j (some (.int p.2))) H) : gTup K 2 (gCons (gName i) (gCons (gName j) gNil)) v σ H Q := by
  obtain ⟨t, rfl, e⟩ := h
  exact ⟨t, _, rfl, SqT.of e, rfl, _, _, rfl, _, _, rfl, rfl, k⟩
/-! ### sizes -/
structure Sz (ps : List P2) : Prop where
  ok : Ok ps
  cnt : Bd 400 (sm (·.2) ps)
  tot : Bd 800 (sm (fun h => ((h.2 * h.1).natAbs : Int)) ps)
  len : ps.length ≤ 10000
  pl : ∀ h ∈ ps, Bd 800 h.1
theorem sm_nonneg {F : P2 → Int} : ∀ {l : List P2}, (∀ b ∈ l, 0 ≤ F b) → 0 ≤ sm F l
  | [], _ => Int.le_refl _
  | x :: r, h => by
    rw [sm_cons]
    have := h x List.mem_cons_self
    have := sm_nonneg (l := r) fun b hb => h b (List.mem_cons_of_mem _ hb)
    omega
theorem sm_mem {F : P2 → Int} : ∀ {l : List P2} {b : P2}, (∀ b ∈ l, 0 ≤ F b) → b ∈ l → F b ≤ sm F l
  | x :: r, b, h, hb => by
    rw [sm_cons]
    have h1 := h x List.mem_cons_self
    have h2 := sm_nonneg (l := r) fun b hb => h b (List.mem_cons_of_mem _ hb)
    rcases List.mem_cons.mp hb with rfl | hb
    · omega
    · have := sm_mem (l := r) (fun b hb => h b (List.mem_cons_of_mem _ hb)) hb
      omega
/-- blocks no greater than this -/
structure Sm (N M : Int) (st : List P2) : Prop where
  pos : ∀ b ∈ st, 0 < b.1
  cnt : sm (·.1) st ≤ N
  tot : sm (fun b => (b.2.natAbs : Int)) st ≤ M
theorem Sm.mem {N M : Int} {st : List P2} (h : Sm N M st) {b : P2} (hb : b ∈ st) : 0 < b.1 ∧ b.1 ≤ N ∧ (b.2.natAbs : Int) ≤ M := by
  have h1 := h.pos b hb
  have h2 := sm_mem (F := (·.1)) (fun c hc => Int.le_of_lt (h.pos c hc)) hb
  have h3 := sm_mem (F := fun b => (b.2.natAbs : Int)) (l := st) (fun c hc => Int.natCast_nonneg _) hb
  exact ⟨h1, Int.le_trans h2 h.cnt, Int.le_trans h3 h.tot⟩
theorem Sm.bAdd {N M : Int} {st : List P2} {a b : P2} (h : Sm N M (b :: a :: st)) : Sm N M (bAdd a b :: st) := by
  obtain ⟨h1, h2, h3⟩ := h
  rw [sm_cons, sm_cons] at h2 h3
  refine ⟨fun c hc => ?_, ?_, ?_⟩
  · rcases List.mem_cons.mp hc with rfl | hc
    · have := h1 a (by simp)
      have := h1 b (by simp)
      show 0 < a.1 + b.1
      omega
    · exact h1 c (by simp [hc])
  · rw [sm_cons]
    show a.1 + b.1 + _ ≤ N
    omega
  · rw [sm_cons]
    show ((a.2 + b.2).natAbs : Int) + _ ≤ M
    have := Int.natAbs_add_le a.2 b.2
    omega
theorem Sm.push {N M : Int} : ∀ {st : List P2} {b : P2}, Sm N M (b :: st) → Sm N M (push st b)
  | [], b, h => h
  | a :: r, b, h => by
    unfold Mth.push
    split
    · exact Sm.push h.bAdd
    · exact h
end Sp
namespace Sp
open PySem L2 Mth
open Evl (Ex)
/-- a method; a class that makes -/
structure Md (P : Program) (w : World) (K : PySem.W.Frag) (mg : Str → Option Value) (base : Heap) (C : Addr) (nm : Str) (k : Nat) (ps : List Str) (sp : Sp) (f : Addr) (fd : FuncData) : Prop where
  F : FnOk P w K mg base CX0 k f fd ps sp
  m : Meth K C nm f
  b : Binds K fd ps []
  cl : Cls K C
structure Mr (P : Program) (w : World) (K : PySem.W.Frag) (mg : Str → Option Value) (base : Heap) (nm : Str) (C : Addr) (k : Nat) (ps : List Str) (sp : Sp) (f : Addr) (fd : FuncData) : Prop where
  F : FnOk P w K mg base CX0 k f fd ps sp
  m : Mk K C f
  b : Binds K fd ps []
  g : mg nm = some (.ref C)
/-- names of the built-in things that the text does not bind -/
structure Ms (mg : Str → Option Value) : Prop where
  isinstance_ : mg "isinstance" = none
  int_ : mg "int" = none
  bool_ : mg "bool" = none
  tuple_ : mg "tuple" = none
  list_ : mg "list" = none
  len_ : mg "len" = none
  sorted_ : mg "sorted" = none
  range_ : mg "range" = none
  sum_ : mg "sum" = none
  min_ : mg "min" = none
  max_ : mg "max" = none
  any_ : mg "any" = none
  all_ : mg "all" = none
  abs_ : mg "abs" = none
  str_ : mg "str" = none
theorem pr_last {α β : Type} {F : α → β → Prop} {xs : List α} {ys : List β} {y : β} (h : Paired F xs (ys ++ [y])) : ∃ xs' x, xs = xs' ++ [x] ∧ Paired F xs' ys ∧ F x y := by
  have h2 := pr_rev h
  rw [List.reverse_append, List.reverse_singleton, List.singleton_append] at h2
  generalize e : xs.reverse = zs at h2
  cases h2 with
  | cons r t =>
    rename_i x zs'
    refine ⟨zs'.reverse, x, ?_, ?_, r⟩
    · have : xs = (xs.reverse).reverse := (List.reverse_reverse xs).symm
      rw [this, e, List.reverse_cons]
    · have := pr_rev t
      rw [List.reverse_reverse] at this
      exact this
theorem pr_map {α β γ : Type} {F : α → β → Prop} {G : α → γ → Prop} {g : β → γ} : ∀ {xs : List α} {ys : List β}, Paired F xs ys → (∀ a b, F a b → G a (g b)) → Paired G xs (ys.map g)
  | _, _, .nil, _ => .nil
  | _, _, .cons r t, h => .cons (h _ _ r) (pr_map t h)
theorem pr_imp {α β : Type} {F G : α → β → Prop} {xs : List α} {ys : List β} (h : Paired F xs ys) (k : ∀ a b, F a b → G a b) : Paired G xs ys := Paired.mapP h k
theorem last_at {α : Type} (xs : List α) (x : α) : (xs ++ [x])[(xs ++ [x]).length - 1]? = some x := by simp
theorem take_snoc {α : Type} {l : List α} {i : Nat} {x : α} (h : l[i]? = some x) : l.take (i + 1) = l.take i ++ [x] := by rw [List.take_add_one, h]; rfl
theorem sm_take {F : P2 → Int} {l : List P2} {i : Nat} {x : P2} (h : l[i]? = some x) : sm F (l.take (i + 1)) = sm F (l.take i) + F x := by
  rw [take_snoc h, sm_append, sm_cons, sm_nil, Int.add_zero]
theorem sm_take_le {F : P2 → Int} {l : List P2} (i : Nat) (h : ∀ b ∈ l, 0 ≤ F b) : sm F (l.take i) ≤ sm F l := by
  have e : sm F l = sm F (l.take i) + sm F (l.drop i) := by rw [← sm_append, List.take_append_drop]
  have := sm_nonneg (F := F) (l := l.drop i) fun b hb => h b (List.mem_of_mem_drop hb)
  omega
theorem fold_take {α β : Type} {f : β → α → β} {b : β} {l : List α} {i : Nat} {x : α} (h : l[i]? = some x) : (l.take (i + 1)).foldl f b = f ((l.take i).foldl f b) x := by
  rw [take_snoc h, List.foldl_append]
  rfl
end Sp

set_option Elab.async false
set_option linter.all false
set_option maxRecDepth 100000
set_option maxHeartbeats 4000000
namespace Sp
open PySem L2 Mth Evl
/-! ### expressions that hand back pairs, lists of pairs (new ones) -/
def NL (te : TE) (σ : L2.St) (H : Hp) (qs : List P2) : Prop := ∀ H1, Ex H H1 → ∀ Q : VK, (∀ p H2, H1 p = none → Ex H1 H2 → PL H2 p qs → Q (.ref p) H2) → te σ H1 Q
def NP (te : TE) (σ : L2.St) (H : Hp) (q : P2) : Prop := ∀ H1, Ex H H1 → ∀ Q : VK, (∀ v H2, Ex H1 H2 → Tp H2 v q → Q v H2) → te σ H1 Q
def NA (ta : TA) (σ : L2.St) (H : Hp) (qs : List P2) : Prop := ∀ H1, Ex H H1 → ∀ Q : List V → Hp → Prop, (∀ vs H2, Ex H1 H2 → Tps H2 vs qs → Q vs H2) → ta σ H1 Q
/-- the slice of any list -/
def cutQ {α : Type} (xs : List α) (lo hi : Option Int) : List α := (xs.drop (HT.sIx xs.length 0 lo)).take (HT.sIx xs.length xs.length hi - HT.sIx xs.length 0 lo)
theorem cut_tps {H : Hp} {vs : List V} {ps : List P2} (h : Tps H vs ps) (lo hi : Option Int) : Tps H (cutV vs lo hi) (cutQ ps lo hi) := by
  have e := pr_len h
  unfold cutV cutQ
  rw [e]
  exact pr_take _ (pr_drop _ h)
theorem cutQ_to {α : Type} (xs : List α) (k : Nat) (h : k ≤ xs.length) : cutQ xs none (some (k : Int)) = xs.take k := by
  unfold cutQ
  rw [HT.sIx_none, HT.sIx_nat, List.drop_zero, Nat.sub_zero, Nat.min_eq_left h]
theorem cutQ_from {α : Type} (xs : List α) (k : Nat) : cutQ xs (some (k : Int)) none = xs.drop k := by
  unfold cutQ
  rw [HT.sIx_none, HT.sIx_nat]
  by_cases h : k ≤ xs.length
  · rw [Nat.min_eq_left h]
    exact List.take_of_length_le (by rw [List.length_drop]; omega)
  · rw [Nat.min_eq_right (by omega), Nat.sub_self, List.take_zero, List.drop_eq_nil_of_le (by omega)]
theorem cutQ_sub {α : Type} (xs : List α) (lo hi : Option Int) : ∀ x ∈ cutQ xs lo hi, x ∈ xs := fun x h => List.mem_of_mem_drop (List.mem_of_mem_take h)
theorem cutQ_len {α : Type} (xs : List α) (lo hi : Option Int) : (cutQ xs lo hi).length ≤ xs.length := by
  unfold cutQ
  rw [List.length_take, List.length_drop]
  omega
section
variable {K : PySem.W.Frag} {σ : L2.St} {H H' : Hp} {ta tb te : TE} {x y v : V} {p q : P2} {ps qs : List P2} {a : Addr} {tl th : TO} {lo hi : Option Int} {D : Ends} {tz : TS}
theorem NL.mono (e : Ex H H') (h : NL te σ H qs) : NL te σ H' qs := fun H1 e1 Q k => h H1 (e.trans e1) Q k
theorem NP.mono (e : Ex H H') (h : NP te σ H q) : NP te σ H' q := fun H1 e1 Q k => h H1 (e.trans e1) Q k
theorem np_var {i : Nat} (h : σ[i]? = some (some v)) (t : Tp H v q) : NP (tVar i) σ H q := fun H1 e Q k => ⟨v, h, k v H1 (Ex.refl _) (t.mono e)⟩
theorem np_pair (ha : Ev ta σ H (.int p.1)) (hb : Ev tb σ H (.int p.2)) : NP (tTup (tCons ta (tCons tb tNil))) σ H p := fun H1 e Q k =>
  ha H1 e _ fun H2 e2 => hb H2 (e.trans e2) _ fun H3 e3 => ⟨by show 2 ≤ sizeLine; decide, fun t nt => k _ _ ((e2.trans e3).trans (Ex.new nt)) ⟨t, rfl, upd_same⟩⟩
theorem np_ixL {i : Int} (ha : Ev ta σ H (.ref a)) (hb : Ev tb σ H (.int i)) (h : PL H a ps) (hi : atI ps i = some q) : NP (tOp (rIxL K) ta tb) σ H q := fun H1 e Q k =>
  ha H1 e _ fun H2 e2 => hb H2 (e.trans e2) _ fun H3 e3 => by
    obtain ⟨vs, h1, h2⟩ := h.mono ((e.trans e2).trans e3)
    obtain ⟨j, hj, hq⟩ : ∃ j, ixN ps.length i = some j ∧ ps[j]? = some q := by
      unfold atI at hi
      cases hx : ixN ps.length i with
      | none => rw [hx] at hi; cases hi
      | some j => rw [hx] at hi; exact ⟨j, rfl, hi⟩
    obtain ⟨v, hv, tv⟩ := pr_get2 h2 hq
    exact ⟨a, vs, i, v, rfl, rfl, SqL.of h1, by unfold atI; rw [pr_len h2, hj]; exact hv, k v H3 (e2.trans e3) tv⟩
/-- an item of a list that is made on the way -/
theorem np_ixN {i : Int} (ha : NL ta σ H ps) (hb : Ev tb σ H (.int i)) (hi : atI ps i = some q) : NP (tOp (rIxL K) ta tb) σ H q := fun H1 e Q k =>
  ha H1 e _ fun l H2 nl e2 h => hb H2 (e.trans e2) _ fun H3 e3 => by
    obtain ⟨vs, h1, h2⟩ := h.mono e3
    obtain ⟨j, hj, hq⟩ : ∃ j, ixN ps.length i = some j ∧ ps[j]? = some q := by
      unfold atI at hi
      cases hx : ixN ps.length i with
      | none => rw [hx] at hi; cases hi
      | some j => rw [hx] at hi; exact ⟨j, rfl, hi⟩
    obtain ⟨v, hv, tv⟩ := pr_get2 h2 hq
    exact ⟨l, vs, i, v, rfl, rfl, SqL.of h1, by unfold atI; rw [pr_len h2, hj]; exact hv, k v H3 (e2.trans e3) tv⟩
/-- a pair's number -/
theorem ev_ixP {i : Int} (ha : NP ta σ H p) (hb : Ev tb σ H (.int i)) (hi : atI ([.int p.1, .int p.2] : List V) i = some v) : Ev (tOp (rIxT K) ta tb) σ H v := fun H1 e Q k =>
  ha H1 e _ fun u H2 e2 t => hb H2 (e.trans e2) _ fun H3 e3 => by
    obtain ⟨a, rfl, h⟩ := t.mono e3
    exact ⟨a, _, i, v, rfl, rfl, SqT.of h, hi, k H3 (e2.trans e3)⟩
theorem na_nil : NA tNil σ H [] := fun H1 _ Q k => k _ _ (Ex.refl _) .nil
theorem na_cons {tr : TA} (h : NP te σ H q) (hr : NA tr σ H qs) : NA (tCons te tr) σ H (q :: qs) := fun H1 e Q k =>
  h H1 e _ fun v H2 e2 t => hr H2 (e.trans e2) _ fun vs H3 e3 ts => k _ _ (e2.trans e3) (.cons (t.mono e3) ts)
theorem nl_lst {t : TA} (h : NA t σ H qs) (hz : qs.length ≤ 100000) : NL (tLst t) σ H qs := fun H1 e Q k =>
  h H1 e _ fun vs H2 e2 ts => ⟨by rw [pr_len ts]; exact sz_of hz, fun l nl => k l _ (Evl.fresh_back e2 nl) (e2.trans (Ex.new nl)) ⟨vs, upd_same, ts.mono (Ex.new nl)⟩⟩
theorem nl_sl (ha : Ev ta σ H (.ref a)) (h1 : EvO tl σ H lo) (h2 : EvO th σ H hi) (h : PL H a ps) : NL (tSl (rSlL K) ta tl th) σ H (cutQ ps lo hi) := fun H1 e Q k =>
  ha H1 e _ fun H2 e2 => h1 H2 (e.trans e2) _ fun H3 e3 => h2 H3 ((e.trans e2).trans e3) _ fun H4 e4 => by
    obtain ⟨vs, g1, g2⟩ := h.mono (((e.trans e2).trans e3).trans e4)
    exact ⟨a, vs, rfl, SqL.of g1, fun l nl => k l _ (Evl.fresh_back ((e2.trans e3).trans e4) nl) (((e2.trans e3).trans e4).trans (Ex.new nl)) ⟨_, upd_same, (cut_tps g2 lo hi).mono (Ex.new nl)⟩⟩
theorem nl_cat (ha : NL ta σ H ps) (hb : NL tb σ H qs) (hz : ps.length + qs.length ≤ 100000) : NL (tOp rCat ta tb) σ H (ps ++ qs) := fun H1 e Q k =>
  ha H1 e _ fun l H2 nl e2 h => hb H2 (e.trans e2) _ fun b H3 nb e3 g => by
    obtain ⟨vs, h1, h2⟩ := h.mono e3
    obtain ⟨ws, g1, g2⟩ := g
    exact ⟨l, b, vs, ws, rfl, rfl, h1, g1, by rw [pr_len h2, pr_len g2]; exact sz_of hz, fun r nr => k r _ (Evl.fresh_back (e2.trans e3) nr) ((e2.trans e3).trans (Ex.new nr)) ⟨_, upd_same, pr_app (h2.mono (Ex.new nr)) (g2.mono (Ex.new nr))⟩⟩
/-- a list that stands, and a new one -/
theorem nl_catV (ha : Ev ta σ H (.ref a)) (h : PL H a ps) (hb : NL tb σ H qs) (hz : ps.length + qs.length ≤ 100000) : NL (tOp rCat ta tb) σ H (ps ++ qs) := fun H1 e Q k =>
  ha H1 e _ fun H2 e2 => hb H2 (e.trans e2) _ fun b H3 nb e3 g => by
    obtain ⟨vs, h1, h2⟩ := h.mono ((e.trans e2).trans e3)
    obtain ⟨ws, g1, g2⟩ := g
    exact ⟨a, b, vs, ws, rfl, rfl, h1, g1, by rw [pr_len h2, pr_len g2]; exact sz_of hz, fun r nr => k r _ (Evl.fresh_back (e2.trans e3) nr) ((e2.trans e3).trans (Ex.new nr)) ⟨_, upd_same, pr_app (h2.mono (Ex.new nr)) (g2.mono (Ex.new nr))⟩⟩
theorem nl_rev (ha : Ev ta σ H (.ref a)) (h : PL H a ps) : NL (tRevL K ta) σ H ps.reverse := fun H1 e Q k =>
  ha H1 e _ fun H2 e2 => by
    obtain ⟨vs, h1, h2⟩ := h.mono (e.trans e2)
    exact ⟨a, vs, rfl, SqL.of h1, fun l nl => k l _ (Evl.fresh_back e2 nl) (e2.trans (Ex.new nl)) ⟨_, upd_same, pr_rev (h2.mono (Ex.new nl))⟩⟩
theorem nl_list (ha : Ev ta σ H (.ref a)) (h : PL H a ps) : NL (tCB (fun xs H Q => ∃ p ys, xs = [.ref p] ∧ (SqL K H p ys ∨ SqT K H p ys) ∧ ∀ l, H l = none → Q (.ref l) (upd H l (.lst ys))) (tCons ta tNil)) σ H ps := fun H1 e Q k =>
  ha H1 e _ fun H2 e2 => by
    obtain ⟨vs, h1, h2⟩ := h.mono (e.trans e2)
    exact ⟨a, vs, rfl, .inl (SqL.of h1), fun l nl => k l _ (Evl.fresh_back e2 nl) (e2.trans (Ex.new nl)) ⟨_, upd_same, h2.mono (Ex.new nl)⟩⟩
theorem nl_if {b : Bool} {t : TT} (h : EvT t σ H b) (h1 : b = true → NL ta σ H qs) (h2 : b = false → NL tb σ H qs) : NL (tIf t ta tb) σ H qs := fun H1 e Q k => h H1 e _ fun H2 e2 => by
  cases b with
  | true => exact h1 rfl H2 (e.trans e2) Q fun p H3 n3 e3 g => k p H3 (Evl.fresh_back e2 n3) (e2.trans e3) g
  | false => exact h2 rfl H2 (e.trans e2) Q fun p H3 n3 e3 g => k p H3 (Evl.fresh_back e2 n3) (e2.trans e3) g
theorem nl_is (h : NL te σ H ps) (e : ps = qs) : NL te σ H qs := e ▸ h
theorem ev_is2 {w : V} (h : Ev te σ H v) (e : v = w) : Ev te σ H w := e ▸ h
/-- a == b, a != b of lists of pairs -/
theorem ev_eqPL {b : Addr} (ha : Ev ta σ H (.ref a)) (hb : Ev tb σ H (.ref b)) (h1 : PL H a ps) (h2 : PL H b qs) : Ev (tOp (rEqD K) ta tb) σ H (.bl (decide (ps = qs))) := fun H1 e Q k =>
  ha H1 e _ fun H2 e2 => hb H2 (e.trans e2) _ fun H3 e3 => eq_PL (h1.mono ((e.trans e2).trans e3)) (h2.mono ((e.trans e2).trans e3)) (k H3 (e2.trans e3))
theorem ev_nePL {b : Addr} (ha : Ev ta σ H (.ref a)) (hb : Ev tb σ H (.ref b)) (h1 : PL H a ps) (h2 : PL H b qs) : Ev (tOp (rNeD K) ta tb) σ H (.bl (!decide (ps = qs))) := fun H1 e Q k =>
  ha H1 e _ fun H2 e2 => hb H2 (e.trans e2) _ fun H3 e3 => ne_PL (h1.mono ((e.trans e2).trans e3)) (h2.mono ((e.trans e2).trans e3)) (k H3 (e2.trans e3))
/-- numbers -/
theorem e_add {i j : Int} (ha : Ev ta σ H (.int i)) (hb : Ev tb σ H (.int j)) : Ev (tOp (rI0 fun i j => .int (i + j)) ta tb) σ H (.int (i + j)) := ev_op ha hb (rv_I0 (g := fun i j => .int (i + j)))
theorem e_sub {i j : Int} (ha : Ev ta σ H (.int i)) (hb : Ev tb σ H (.int j)) : Ev (tOp (rI0 fun i j => .int (i - j)) ta tb) σ H (.int (i - j)) := ev_op ha hb (rv_I0 (g := fun i j => .int (i - j)))
theorem e_C {C : Int → Int → Prop} {g : Int → Int → V} {i j : Int} (ha : Ev ta σ H (.int i)) (hb : Ev tb σ H (.int j)) (hc : C i j) : Ev (tOp (rI C g) ta tb) σ H (g i j) := ev_op ha hb (rv_I hc)
theorem e_mul {i j : Int} (ha : Ev ta σ H (.int i)) (hb : Ev tb σ H (.int j)) (hc : CMul i j) : Ev (tOp (rI CMul fun i j => .int (i * j)) ta tb) σ H (.int (i * j)) := e_C (g := fun i j => .int (i * j)) ha hb hc
theorem e_mulW {i j : Int} (ha : Ev ta σ H (.int i)) (hb : Ev tb σ H (.int j)) (hc : CMulW i j) : Ev (tOp (rI CMulW fun i j => .int (i * j)) ta tb) σ H (.int (i * j)) := e_C (g := fun i j => .int (i * j)) ha hb hc
theorem e_div {i j : Int} (ha : Ev ta σ H (.int i)) (hb : Ev tb σ H (.int j)) (hc : CDiv i j) : Ev (tOp (rI CDiv fun i j => .int (i / j)) ta tb) σ H (.int (i / j)) := e_C (g := fun i j => .int (i / j)) ha hb hc
theorem e_divW {i j : Int} (ha : Ev ta σ H (.int i)) (hb : Ev tb σ H (.int j)) (hc : CDivW i j) : Ev (tOp (rI CDivW fun i j => .int (i / j)) ta tb) σ H (.int (i / j)) := e_C (g := fun i j => .int (i / j)) ha hb hc
theorem e_mod {i j : Int} (ha : Ev ta σ H (.int i)) (hb : Ev tb σ H (.int j)) (hc : 0 < j) : Ev (tOp (rI (fun _ j => 0 < j) fun i j => .int (i % j)) ta tb) σ H (.int (i % j)) := e_C (C := fun _ j => 0 < j) (g := fun i j => .int (i % j)) ha hb hc
theorem e_pow {i j : Int} (ha : Ev ta σ H (.int i)) (hb : Ev tb σ H (.int j)) (hc : CPow i j) : Ev (tOp (rI CPow fun i j => .int (i ^ j.toNat)) ta tb) σ H (.int (i ^ j.toNat)) := e_C (g := fun i j => .int (i ^ j.toNat)) ha hb hc
theorem e_neg {i : Int} (ha : Ev ta σ H (.int i)) : Ev (tUn (rU fun i => .int (-i)) ta) σ H (.int (-i)) := ev_un ha ru_neg
theorem e_lt {i j : Int} (ha : Ev ta σ H (.int i)) (hb : Ev tb σ H (.int j)) : EvT (tTest (tOp (rI0 fun i j => .bl (decide (i < j))) ta tb)) σ H (decide (i < j)) := et_test (ev_op ha hb (rv_I0 (g := fun i j => .bl (decide (i < j)))))
theorem e_gt {i j : Int} (ha : Ev ta σ H (.int i)) (hb : Ev tb σ H (.int j)) : EvT (tTest (tOp (rI0 fun i j => .bl (decide (j < i))) ta tb)) σ H (decide (j < i)) := et_test (ev_op ha hb (rv_I0 (g := fun i j => .bl (decide (j < i)))))
theorem e_ge {i j : Int} (ha : Ev ta σ H (.int i)) (hb : Ev tb σ H (.int j)) : EvT (tTest (tOp (rI0 fun i j => .bl (decide (j ≤ i))) ta tb)) σ H (decide (j ≤ i)) := et_test (ev_op ha hb (rv_I0 (g := fun i j => .bl (decide (j ≤ i)))))
theorem e_eqi {i j : Int} (ha : Ev ta σ H (.int i)) (hb : Ev tb σ H (.int j)) : EvT (tTest (tOp rEq ta tb)) σ H (decide (i = j)) := et_is (et_test (ev_op ha hb (rv_eq rfl))) (by rw [Bool.eq_iff_iff]; simp)
theorem e_nei {i j : Int} (ha : Ev ta σ H (.int i)) (hb : Ev tb σ H (.int j)) : EvT (tTest (tOp rNe ta tb)) σ H (!decide (i = j)) := et_is (et_test (ev_op ha hb (rv_ne rfl))) (by congr 1; rw [Bool.eq_iff_iff]; simp)
theorem e_lenL {vs : List V} (ha : Ev ta σ H (.ref a)) (h : SqL K H a vs) : Ev (tCB (fun xs H Q => ∃ p ys, xs = [.ref p] ∧ (SqL K H p ys ∨ SqT K H p ys) ∧ Q (.int ys.length) H) (tCons ta tNil)) σ H (.int (vs.length : Int)) := fun H1 e Q k =>
  ha H1 e _ fun H2 e2 => ⟨a, vs, rfl, .inl (ex_l (e.trans e2) h), k H2 e2⟩
theorem e_lenP (ha : Ev ta σ H (.ref a)) (h : PL H a ps) : Ev (tCB (fun xs H Q => ∃ p ys, xs = [.ref p] ∧ (SqL K H p ys ∨ SqT K H p ys) ∧ Q (.int ys.length) H) (tCons ta tNil)) σ H (.int (ps.length : Int)) := by
  obtain ⟨vs, h1, h2⟩ := h
  have := e_lenL (K := K) ha (SqL.of h1)
  rw [pr_len h2] at this
  exact this
/-! statements -/
theorem q_asgN {i : Nat} (h : NL te σ H qs) (k : ∀ p H1, H p = none → Ex H H1 → PL H1 p qs → tz D (σ.set i (some (.ref p))) H1) : tSeq (tAsg te (gName i)) tz D σ H := h H (Ex.refl H) _ k
theorem q_asgP {i : Nat} (h : NP te σ H q) (k : ∀ v H1, Ex H H1 → Tp H1 v q → tz D (σ.set i (some v)) H1) : tSeq (tAsg te (gName i)) tz D σ H := h H (Ex.refl H) _ k
theorem s_retN (h : NL te σ H qs) (k : ∀ p H1, H p = none → Ex H H1 → PL H1 p qs → D.rt (.ref p) H1) : tRet te D σ H := h H (Ex.refl H) _ k
theorem q_asgPair {i j : Nat} (h : NP te σ H q) (k : ∀ H1, Ex H H1 → tz D ((σ.set i (some (.int q.1))).set j (some (.int q.2))) H1) : tSeq (tAsg te (gTup K 2 (gCons (gName i) (gCons (gName j) gNil)))) tz D σ H :=
  h H (Ex.refl H) _ fun v H1 e t => g_pair t (k H1 e)
end
end Sp
namespace Sp
open PySem L2 Mth Evl
/-! ### what the law draws -/
def primes : List Int := [1000003, 1000033, 1000037, 1000039, 1000081, 1000099, 1000117, 1000121, 1000133, 1000151, 1000159, 1000171, 1000183, 1000187, 1000193, 1000199]
def cellF (ns : List Int) (k : Int) : Int := ns.getD k.toNat 0
def drawF (c k m : Int) : Int := (c * 48271 + k * 69621) % (primes.getD (k % 16).toNat 1) % m
theorem drawF_lo {c k m : Int} (h : 0 < m) : 0 ≤ drawF c k m := Int.emod_nonneg _ (by omega)
theorem drawF_hi {c k m : Int} (h : 0 < m) : drawF c k m < m := Int.emod_lt_of_pos _ h
theorem prime_at (i : Int) : ∃ p, atI (primes.map V.int) (i % 16) = some (.int p) ∧ 0 < p ∧ p = primes.getD (i % 16).toNat 1 := by
  have h1 := Int.emod_nonneg i (show (16 : Int) ≠ 0 by decide)
  have h2 := Int.emod_lt_of_pos i (show (0 : Int) < 16 by decide)
  obtain ⟨j, hj⟩ : ∃ j : Nat, i % 16 = (j : Int) := ⟨(i % 16).toNat, by omega⟩
  rw [hj]
  have hj16 : j < 16 := by omega
  have hlen : primes.length = 16 := rfl
  have hg : primes[j]? = some (primes.getD j 1) := by
    rw [List.getD_eq_getElem?_getD, List.getElem?_eq_getElem (by omega)]
    rfl
  refine ⟨primes.getD j 1, atI_nat (by rw [List.getElem?_map, hg]; rfl), ?_, by rw [Int.toNat_natCast]⟩
  have all : ∀ p ∈ primes, 0 < p := by decide
  exact all _ (List.mem_of_getElem? hg)
def most4 (i : Int) : Int := ([3, 20, 1000000, 5] : List Int).getD i.toNat 1
def wide4 (i : Int) : Int := ([5, 60, 1000000, 9] : List Int).getD i.toNat 1
theorem four_at (l : List Int) (hl : l.length = 4) {i : Int} (h0 : 0 ≤ i) (h4 : i < 4) : atI (l.map V.int) i = some (.int (l.getD i.toNat 1)) := by
  obtain ⟨j, rfl⟩ : ∃ j : Nat, i = (j : Int) := ⟨i.toNat, by omega⟩
  refine atI_nat ?_
  rw [List.getElem?_map, Int.toNat_natCast, List.getD_eq_getElem?_getD, List.getElem?_eq_getElem (by omega)]
  rfl
def evenH (ns : List Int) (i : Nat) : P2 := (cellF ns (2 * i : Int) / 2 % 10 ^ 40 * (1 - cellF ns (2 * i : Int) % 2 * 2), cellF ns (2 * i + 1 : Int) % 10 ^ 40)
def oddH (ns : List Int) (i : Nat) : P2 :=
  (drawF (cellF ns i) ((i : Int) % 5 + 1) (wide4 (drawF (cellF ns 1) 7 4)) - wide4 (drawF (cellF ns 1) 7 4) / 2, drawF (cellF ns i) ((i : Int) % 7 + 2) (most4 (drawF (cellF ns 0) 6 4)))
def heapsF (ns : List Int) : List P2 := if ns.length % 2 = 0 then (List.range (ns.length / 2)).map (evenH ns) else (List.range ns.length).map (oddH ns)
/-- heaps no greater than this -/
structure HB (L : Nat) (ps : List P2) : Prop where
  len : ps.length ≤ L
  ok : ∀ h ∈ ps, 0 ≤ h.2 ∧ Bd 200 h.2 ∧ Bd 200 h.1
theorem wide4_pos {i : Int} (h0 : 0 ≤ i) (h4 : i < 4) : 0 < wide4 i ∧ wide4 i ≤ 1000000 := by
  have : i = 0 ∨ i = 1 ∨ i = 2 ∨ i = 3 := by omega
  rcases this with rfl | rfl | rfl | rfl <;> decide
theorem most4_pos {i : Int} (h0 : 0 ≤ i) (h4 : i < 4) : 0 < most4 i ∧ most4 i ≤ 1000000 := by
  have : i = 0 ∨ i = 1 ∨ i = 2 ∨ i = 3 := by omega
  rcases this with rfl | rfl | rfl | rfl <;> decide
theorem ten40 : (10 : Int) ^ 40 = 10000000000000000000000000000000000000000 := by decide
theorem two200 : (2 : Nat) ^ 200 = 1606938044258990275541962092341162602522202993782792835301376 := by decide
theorem evenH_ok (ns : List Int) (i : Nat) : 0 ≤ (evenH ns i).2 ∧ (evenH ns i).2 < 10 ^ 40 ∧ (evenH ns i).1.natAbs < 10 ^ 40 := by
  unfold evenH
  generalize cellF ns (2 * i : Int) = x
  generalize cellF ns (2 * i + 1 : Int) = y
  have p0 : (0 : Int) < 10 ^ 40 := by decide
  have a1 := Int.emod_nonneg y (show (10 : Int) ^ 40 ≠ 0 by decide)
  have a2 := Int.emod_lt_of_pos y p0
  have b1 := Int.emod_nonneg (x / 2) (show (10 : Int) ^ 40 ≠ 0 by decide)
  have b2 := Int.emod_lt_of_pos (x / 2) p0
  refine ⟨a1, a2, ?_⟩
  show (x / 2 % 10 ^ 40 * (1 - x % 2 * 2)).natAbs < 10 ^ 40
  have h : 1 - x % 2 * 2 = 1 ∨ 1 - x % 2 * 2 = -1 := by omega
  generalize x / 2 % 10 ^ 40 = z at *
  have e : (10 : Nat) ^ 40 = 10000000000000000000000000000000000000000 := by decide
  rw [ten40] at b2
  rw [e]
  rcases h with h | h <;> rw [h] <;> omega
theorem oddH_ok (ns : List Int) (i : Nat) : 0 ≤ (oddH ns i).2 ∧ (oddH ns i).2 < 1000000 ∧ (oddH ns i).1.natAbs < 1000001 := by
  unfold oddH
  obtain ⟨w1, w2⟩ := wide4_pos (drawF_lo (c := cellF ns 1) (k := 7) (m := 4) (by decide)) (drawF_hi (by decide))
  obtain ⟨m1, m2⟩ := most4_pos (drawF_lo (c := cellF ns 0) (k := 6) (m := 4) (by decide)) (drawF_hi (by decide))
  generalize wide4 (drawF (cellF ns 1) 7 4) = w at *
  generalize most4 (drawF (cellF ns 0) 6 4) = m at *
  have a1 := drawF_lo (c := cellF ns i) (k := (i : Int) % 5 + 1) w1
  have a2 := drawF_hi (c := cellF ns i) (k := (i : Int) % 5 + 1) w1
  have b1 := drawF_lo (c := cellF ns i) (k := (i : Int) % 7 + 2) m1
  have b2 := drawF_hi (c := cellF ns i) (k := (i : Int) % 7 + 2) m1
  refine ⟨b1, by show drawF _ _ m < _; omega, ?_⟩
  show (drawF _ _ w - w / 2).natAbs < _
  omega
/-- each heap of the law's: no more than forty figures -/
theorem heapsF_40 (ns : List Int) : ∀ h ∈ heapsF ns, 0 ≤ h.2 ∧ h.2 < 10 ^ 40 ∧ h.1.natAbs < 10 ^ 40 := by
  intro h hh
  unfold heapsF at hh
  split at hh
  · obtain ⟨i, _, rfl⟩ := List.mem_map.mp hh
    exact evenH_ok ns i
  · obtain ⟨i, _, rfl⟩ := List.mem_map.mp hh
    obtain ⟨h1, h2, h3⟩ := oddH_ok ns i
    have e : (10 : Nat) ^ 40 = 10000000000000000000000000000000000000000 := by decide
    rw [ten40, e]
    refine ⟨h1, by omega, by omega⟩
theorem heapsF_len (ns : List Int) : (heapsF ns).length ≤ ns.length := by
  unfold heapsF
  split
  · rw [List.length_map, List.length_range]; omega
  · rw [List.length_map, List.length_range]; omega
theorem heapsF_hb {ns : List Int} (h : ns.length ≤ 63) : HB 63 (heapsF ns) := by
  refine ⟨Nat.le_trans (heapsF_len ns) h, fun x hx => ?_⟩
  obtain ⟨h1, h2, h3⟩ := heapsF_40 ns x hx
  have e : (10 : Nat) ^ 40 = 10000000000000000000000000000000000000000 := by decide
  rw [e] at h3
  rw [ten40] at h2
  unfold Bd
  rw [two200]
  refine ⟨h1, by omega, by omega⟩
theorem HB.le {L M : Nat} {ps : List P2} (h : HB L ps) (hm : L ≤ M) : HB M ps := ⟨Nat.le_trans h.len hm, h.ok⟩
theorem HB.app {L M : Nat} {ps qs : List P2} (h : HB L ps) (k : HB M qs) : HB (L + M) (ps ++ qs) := by
  refine ⟨by rw [List.length_append]; have := h.len; have := k.len; omega, fun x hx => ?_⟩
  rcases List.mem_append.mp hx with hx | hx
  · exact h.ok x hx
  · exact k.ok x hx
theorem HB.sub {L : Nat} {ps qs : List P2} (h : HB L ps) (hl : qs.length ≤ ps.length) (hm : ∀ x ∈ qs, x ∈ ps) : HB L qs := ⟨Nat.le_trans hl h.len, fun x hx => h.ok x (hm x hx)⟩
theorem HB.cut {L : Nat} {ps : List P2} (h : HB L ps) (lo hi : Option Int) : HB L (cutQ ps lo hi) := h.sub (cutQ_len _ _ _) (cutQ_sub _ _ _)
theorem sm_bound {F : P2 → Int} {B : Nat} : ∀ {l : List P2}, (∀ b ∈ l, 0 ≤ F b ∧ (F b).natAbs ≤ B) → 0 ≤ sm F l ∧ (sm F l).natAbs ≤ l.length * B
  | [], _ => by simp [sm]
  | x :: r, h => by
    obtain ⟨h1, h2⟩ := h x List.mem_cons_self
    obtain ⟨h3, h4⟩ := sm_bound (l := r) fun b hb => h b (List.mem_cons_of_mem _ hb)
    rw [sm_cons, List.length_cons, Nat.add_mul, Nat.one_mul]
    omega
theorem HB.sz {L : Nat} {ps : List P2} (h : HB L ps) (hL : L ≤ 1000) : Sz ps := by
  have e1 : 1000 * 2 ^ 200 < 2 ^ 400 := by
    have : 1000 < 2 ^ 10 := by decide
    have : 1000 * 2 ^ 200 < 2 ^ 10 * 2 ^ 200 := Nat.mul_lt_mul_of_pos_right this (Nat.two_pow_pos 200)
    rw [← Nat.pow_add] at this
    exact Nat.lt_trans this (Nat.pow_lt_pow_right (by decide) (by decide))
  have e2 : 1000 * 2 ^ 400 < 2 ^ 800 := by
    have : 1000 < 2 ^ 10 := by decide
    have : 1000 * 2 ^ 400 < 2 ^ 10 * 2 ^ 400 := Nat.mul_lt_mul_of_pos_right this (Nat.two_pow_pos 400)
    rw [← Nat.pow_add] at this
    exact Nat.lt_trans this (Nat.pow_lt_pow_right (by decide) (by decide))
  have l1 := h.len
  refine ⟨fun x hx => (h.ok x hx).1, ?_, ?_, by omega, fun x hx => (h.ok x hx).2.2.mono (by decide)⟩
  · have := (sm_bound (F := (·.2)) (B := 2 ^ 200) (l := ps) fun b hb => ⟨(h.ok b hb).1, Nat.le_of_lt (h.ok b hb).2.1⟩).2
    refine Nat.lt_of_le_of_lt (Nat.le_trans this (Nat.mul_le_mul_right _ (show ps.length ≤ 1000 by omega))) e1
  · have := (sm_bound (F := fun h => ((h.2 * h.1).natAbs : Int)) (B := 2 ^ 400) (l := ps) fun b hb => ⟨Int.natCast_nonneg _, by
      rw [Int.natAbs_natCast]
      exact Nat.le_of_lt ((h.ok b hb).2.1.mul (h.ok b hb).2.2)⟩).2
    refine Nat.lt_of_le_of_lt (Nat.le_trans this (Nat.mul_le_mul_right _ (show ps.length ≤ 1000 by omega))) e2
end Sp
namespace Sp
open PySem L2 Mth Evl
section
variable {K : PySem.W.Frag} {σ : L2.St} {H H' : Hp} {ta tb te : TE} {x y v : V} {p q : P2} {ps qs : List P2} {a : Addr} {D : Ends} {tz : TS}
theorem q_par {i j : Nat} {t : TA} (h : EvA t σ H [x, y]) (k : ∀ H1, Ex H H1 → tz D ((σ.set i (some x)).set j (some y)) H1) : tSeq (tPar i j t) tz D σ H := h H (Ex.refl H) _ fun H1 e => ⟨x, y, rfl, k H1 e⟩
theorem atI_ex {α : Type} (l : List α) {i : Int} (h0 : 0 ≤ i) (h : i < l.length) : ∃ x ∈ l, atI l i = some x := by
  obtain ⟨j, rfl⟩ : ∃ j : Nat, i = (j : Int) := ⟨i.toNat, by omega⟩
  exact ⟨l[j], List.getElem_mem _, atI_nat (List.getElem?_eq_getElem (by omega))⟩
theorem e_isBl {b c : Bool} (ha : Ev ta σ H (.bl b)) (hb : Ev tb σ H (.bl c)) : Ev (tOp rIsB ta tb) σ H (.bl (decide (b = c))) := ev_op ha hb fun H1 _ Q q => ⟨b, c, rfl, rfl, q H1 (Ex.refl _)⟩
theorem e_notBl {b c : Bool} (ha : Ev ta σ H (.bl b)) (hb : Ev tb σ H (.bl c)) : Ev (tOp rNotB ta tb) σ H (.bl (!decide (b = c))) := ev_op ha hb fun H1 _ Q q => ⟨b, c, rfl, rfl, q H1 (Ex.refl _)⟩
theorem e_isi {u : Value} {c : V} {t : Value} {b : Bool} (ha : Ev ta σ H x) (hb : Ev tb σ H c) (hc : ClsV c u) (ht : ∀ H1, Ex H H1 → TyX K H1 x t) (hk : PySem.W.kitOne K t u = some b) : Ev (tCB (rIsi K) (tCons ta (tCons tb tNil))) σ H (.bl b) := fun H1 e Q q =>
  ha H1 e _ fun H2 e2 => hb H2 (e.trans e2) _ fun H3 e3 => ⟨x, c, t, u, b, rfl, hc, ht H3 ((e.trans e2).trans e3), hk, q H3 (e2.trans e3)⟩
theorem ev_lstI {i : Int} {vs : List V} (ha : Ev ta σ H (.ref a)) (hb : Ev tb σ H (.int i)) (h : SqL K H a vs) (hi : atI vs i = some v) : Ev (tOp (rIxL K) ta tb) σ H v := ev_op ha hb (rv_ixL h hi)
end
end Sp

set_option Elab.async false
set_option linter.all false
set_option maxRecDepth 100000
set_option maxHeartbeats 4000000
namespace Sp
open PySem L2 Mth Evl
/-! ### some list of pairs, new or not -/
def SL (te : TE) (σ : L2.St) (H : Hp) (qs : List P2) : Prop := ∀ H1, Ex H H1 → ∀ Q : VK, (∀ p H2, Ex H1 H2 → PL H2 p qs → Q (.ref p) H2) → te σ H1 Q

section
variable {K : PySem.W.Frag} {σ : L2.St} {H H' : Hp} {ta tb te tl : TE} {t tt : TT} {x y v : V} {p q : P2} {ps qs : List P2} {a : Addr} {D : Ends} {tz tu : TS} {tlo thi : TO} {lo hi : Option Int}
theorem SL.mono (e : Ex H H') (h : SL te σ H qs) : SL te σ H' qs := fun H1 e1 Q k => h H1 (e.trans e1) Q k
theorem NL.sl (h : NL te σ H qs) : SL te σ H qs := fun H1 e Q k => h H1 e Q fun p H2 _ e2 g => k p H2 e2 g
theorem sl_of (ha : Ev te σ H (.ref a)) (h : PL H a ps) : SL te σ H ps := fun H1 e Q k => ha H1 e _ fun H2 e2 => k a H2 e2 (h.mono (e.trans e2))
theorem sl_is (h : SL te σ H ps) (e : ps = qs) : SL te σ H qs := e ▸ h
theorem nl_slS (ha : SL ta σ H ps) (h1 : EvO tlo σ H lo) (h2 : EvO thi σ H hi) : NL (tSl (rSlL K) ta tlo thi) σ H (cutQ ps lo hi) := fun H1 e Q k =>
  ha H1 e _ fun a H2 e2 h => h1 H2 (e.trans e2) _ fun H3 e3 => h2 H3 ((e.trans e2).trans e3) _ fun H4 e4 => by
    obtain ⟨vs, g1, g2⟩ := h.mono (e3.trans e4)
    exact ⟨a, vs, rfl, SqL.of g1, fun l nl => k l _ (Evl.fresh_back ((e2.trans e3).trans e4) nl) (((e2.trans e3).trans e4).trans (Ex.new nl)) ⟨_, upd_same, (cut_tps g2 lo hi).mono (Ex.new nl)⟩⟩
theorem nl_catS (ha : SL ta σ H ps) (hb : SL tb σ H qs) (hz : ps.length + qs.length ≤ 100000) : NL (tOp rCat ta tb) σ H (ps ++ qs) := fun H1 e Q k =>
  ha H1 e _ fun l H2 e2 h => hb H2 (e.trans e2) _ fun b H3 e3 g => by
    obtain ⟨vs, h1, h2⟩ := h.mono e3
    obtain ⟨ws, g1, g2⟩ := g
    exact ⟨l, b, vs, ws, rfl, rfl, h1, g1, by rw [pr_len h2, pr_len g2]; exact sz_of hz, fun r nr => k r _ (Evl.fresh_back (e2.trans e3) nr) ((e2.trans e3).trans (Ex.new nr)) ⟨_, upd_same, pr_app (h2.mono (Ex.new nr)) (g2.mono (Ex.new nr))⟩⟩
theorem nl_revS (ha : SL ta σ H ps) : NL (tRevL K ta) σ H ps.reverse := fun H1 e Q k =>
  ha H1 e _ fun a H2 e2 h => by
    obtain ⟨vs, h1, h2⟩ := h
    exact ⟨a, vs, rfl, SqL.of h1, fun l nl => k l _ (Evl.fresh_back e2 nl) (e2.trans (Ex.new nl)) ⟨_, upd_same, pr_rev (h2.mono (Ex.new nl))⟩⟩
theorem e_eqS (ha : SL ta σ H ps) (hb : SL tb σ H qs) : Ev (tOp (rEqD K) ta tb) σ H (.bl (decide (ps = qs))) := fun H1 e Q k =>
  ha H1 e _ fun a H2 e2 h => hb H2 (e.trans e2) _ fun b H3 e3 g => eq_PL (h.mono e3) g (k H3 (e2.trans e3))
theorem e_neS (ha : SL ta σ H ps) (hb : SL tb σ H qs) : Ev (tOp (rNeD K) ta tb) σ H (.bl (!decide (ps = qs))) := fun H1 e Q k =>
  ha H1 e _ fun a H2 e2 h => hb H2 (e.trans e2) _ fun b H3 e3 g => ne_PL (h.mono e3) g (k H3 (e2.trans e3))
theorem e_lenS (ha : SL ta σ H ps) : Ev (tCB (fun xs H Q => ∃ p ys, xs = [.ref p] ∧ (SqL K H p ys ∨ SqT K H p ys) ∧ Q (.int ys.length) H) (tCons ta tNil)) σ H (.int (ps.length : Int)) := fun H1 e Q k =>
  ha H1 e _ fun a H2 e2 h => by
    obtain ⟨vs, h1, h2⟩ := h
    have := k H2 e2
    rw [← pr_len h2] at this
    exact ⟨a, vs, rfl, .inl (SqL.of h1), this⟩
theorem np_ixS {i : Int} (ha : SL ta σ H ps) (hb : Ev tb σ H (.int i)) (hi : atI ps i = some q) : NP (tOp (rIxL K) ta tb) σ H q := fun H1 e Q k =>
  ha H1 e _ fun l H2 e2 h => hb H2 (e.trans e2) _ fun H3 e3 => by
    obtain ⟨vs, h1, h2⟩ := h.mono e3
    obtain ⟨j, hj, hq⟩ : ∃ j, ixN ps.length i = some j ∧ ps[j]? = some q := by
      unfold atI at hi
      cases hx : ixN ps.length i with
      | none => rw [hx] at hi; cases hi
      | some j => rw [hx] at hi; exact ⟨j, rfl, hi⟩
    obtain ⟨v, hv, tv⟩ := pr_get2 h2 hq
    exact ⟨l, vs, i, v, rfl, rfl, SqL.of h1, by unfold atI; rw [pr_len h2, hj]; exact hv, k v H3 (e2.trans e3) tv⟩
theorem nl_sorted (ha : SL ta σ H ps) : NL (tCB (rSortedPO K) (tCons ta tNil)) σ H (sortP ps) := fun H1 e Q k =>
  ha H1 e _ fun a H2 e2 h => do_sorted h fun l ys nl ht => k l _ (Evl.fresh_back e2 nl) (e2.trans (Ex.new nl)) ⟨ys, upd_same, ht.mono (Ex.new nl)⟩
/-! comprehensions over pairs -/
theorem lcP_core {i j : Nat} {vs : List Nat} (f : P2 → Bool) (R : Hp → List V → List P2 → Prop) (hR0 : ∀ H, R H [] []) (hm : ∀ H H' vs qs, Ex H H' → R H vs qs → R H' vs qs)
    (hu : ∀ H D xs ys vs qs, H D = some (.lst xs) → R H vs qs → R (upd H D (.lst ys)) vs qs)
    (hw : ∀ x y, wipe (((wipe σ vs).set i (some x)).set j (some y)) vs = wipe σ vs) (hs : SL tl σ H ps) (hz : ps.length ≤ 50000)
    (ht : ∀ q ∈ ps, ∀ H1, Ex H H1 → EvT tt (((wipe σ vs).set i (some (.int q.1))).set j (some (.int q.2))) H1 (f q))
    (he : ∀ q ∈ ps, f q = true → ∀ H1, Ex H H1 → ∀ acc qs, R H1 acc qs → ∀ Q : VK, (∀ v H2, Ex H1 H2 → R H2 (acc ++ [v]) (qs ++ [q]) → Q v H2) → te (((wipe σ vs).set i (some (.int q.1))).set j (some (.int q.2))) H1 Q) :
    ∀ H1, Ex H H1 → ∀ Q : VK, (∀ p H2 vs, H1 p = none → Ex H1 H2 → H2 p = some (.lst vs) → R H2 vs (ps.filter f) → Q (.ref p) H2) → tLc (iList K tl) (gTup K 2 (gCons (gName i) (gCons (gName j) gNil))) tt te vs σ H1 Q := fun H0 e0 Q k =>
  hs H0 e0 _ fun a H1 e1 hp => by
    obtain ⟨xs, hx, hxp⟩ := hp
    refine ⟨a, rfl, ⟨xs, SqL.of hx⟩, fun Dl hD => ?_⟩
    have nad : a ≠ Dl := fun z => by rw [z, hD] at hx; cases hx
    refine lc_list (xs := xs) (fun n H' => ∃ acc, Ex H1 H' ∧ H' Dl = some (.lst acc) ∧ H' a = some (.lst xs) ∧ Tps H' xs ps ∧ R H' acc ((ps.take n).filter f) ∧ acc.length ≤ n)
      ⟨[], Ex.new hD, upd_same, by rw [upd_ne nad]; exact hx, hxp.mono (Ex.new hD), hR0 _, Nat.le_refl _⟩ (fun n H' _ ⟨_, _, _, h, _⟩ => SqL.of h) ?_ ?_
    · rintro n x H' hn ⟨acc, e2, hd, ha, ht2, hr, hl⟩
      obtain ⟨q, hq, tq⟩ := pr_get ht2 hn
      refine g_pair tq ⟨hw _ _, ?_⟩
      have hqm := List.mem_of_getElem? hq
      have hnl : n < ps.length := (List.getElem?_eq_some_iff.mp hq).1
      rw [take_snoc hq, List.filter_append]
      have e02 := (e0.trans e1).trans e2
      refine ht q hqm H' e02 H' (Ex.refl _) _ fun H3 e3 => ?_
      cases hf : f q with
      | true =>
        rw [if_pos rfl]
        refine he q hqm hf H3 (e02.trans e3) acc _ (hm _ _ _ _ e3 hr) _ fun v H4 e4 hr4 => ?_
        have hd4 := e4 _ _ (e3 _ _ hd)
        refine ⟨acc, hd4, sz_lt (by omega), acc ++ [v], Ex.mut ((e2.trans e3).trans e4) hD, upd_same, by rw [upd_ne nad]; exact e4 _ _ (e3 _ _ ha), ((ht2.mono e3).mono e4).upd hd4, ?_, by rw [List.length_append, List.length_singleton]; omega⟩
        have e5 : [q].filter f = [q] := by simp [hf]
        rw [e5]
        exact hu _ _ _ _ _ _ hd4 hr4
      | false =>
        rw [if_neg Bool.false_ne_true]
        have e5 : [q].filter f = [] := by simp [hf]
        rw [e5, List.append_nil]
        exact ⟨acc, e2.trans e3, e3 _ _ hd, e3 _ _ ha, ht2.mono e3, hm _ _ _ _ e3 hr, by omega⟩
    · rintro H' ⟨acc, e2, hd, ha, ht2, hr, hl⟩
      have el := pr_len hxp
      rw [el, List.take_length] at hr
      exact k Dl H' acc (Evl.fresh_back e1 hD) (e1.trans e2) hd hr
/-- values -/
theorem lcP_val {i j : Nat} {vs : List Nat} (f : P2 → Bool) (g : P2 → V) (hw : ∀ x y, wipe (((wipe σ vs).set i (some x)).set j (some y)) vs = wipe σ vs) (hs : SL tl σ H ps) (hz : ps.length ≤ 50000)
    (ht : ∀ q ∈ ps, ∀ H1, Ex H H1 → EvT tt (((wipe σ vs).set i (some (.int q.1))).set j (some (.int q.2))) H1 (f q))
    (he : ∀ q ∈ ps, f q = true → ∀ H1, Ex H H1 → Ev te (((wipe σ vs).set i (some (.int q.1))).set j (some (.int q.2))) H1 (g q)) :
    EvL (tLc (iList K tl) (gTup K 2 (gCons (gName i) (gCons (gName j) gNil))) tt te vs) σ H ((ps.filter f).map g) := fun H1 e Q k =>
  lcP_core f (fun _ vs qs => vs = qs.map g) (fun _ => rfl) (fun _ _ _ _ _ h => h) (fun _ _ _ _ _ _ _ h => h) hw hs hz ht (fun q hq hf H1 e1 acc qs hr Q k => he q hq hf H1 e1 H1 (Ex.refl _) Q fun H2 e2 => k _ H2 e2 (by rw [hr, List.map_append]; rfl)) H1 e Q
    fun p H2 vs np e2 hp hr => k p H2 np e2 (by rw [hp, hr])
theorem et_yes : EvT tYes σ H true := fun H1 _ _ q => q H1 (Ex.refl _)
theorem lcP_all {i j : Nat} {vs : List Nat} (g : P2 → V) (hw : ∀ x y, wipe (((wipe σ vs).set i (some x)).set j (some y)) vs = wipe σ vs) (hs : SL tl σ H ps) (hz : ps.length ≤ 50000)
    (he : ∀ q ∈ ps, ∀ H1, Ex H H1 → Ev te (((wipe σ vs).set i (some (.int q.1))).set j (some (.int q.2))) H1 (g q)) :
    EvL (tLc (iList K tl) (gTup K 2 (gCons (gName i) (gCons (gName j) gNil))) tYes te vs) σ H (ps.map g) := by
  have := lcP_val (K := K) (tt := tYes) (fun _ => true) g hw hs hz (fun _ _ _ _ => et_yes) (fun q hq _ => he q hq)
  rw [List.filter_eq_self.mpr (fun _ _ => rfl)] at this
  exact this
/-- pairs -/
theorem lcP_pair {i j : Nat} {vs : List Nat} (f : P2 → Bool) (g : P2 → P2) (hw : ∀ x y, wipe (((wipe σ vs).set i (some x)).set j (some y)) vs = wipe σ vs) (hs : SL tl σ H ps) (hz : ps.length ≤ 50000)
    (ht : ∀ q ∈ ps, ∀ H1, Ex H H1 → EvT tt (((wipe σ vs).set i (some (.int q.1))).set j (some (.int q.2))) H1 (f q))
    (he : ∀ q ∈ ps, f q = true → ∀ H1, Ex H H1 → NP te (((wipe σ vs).set i (some (.int q.1))).set j (some (.int q.2))) H1 (g q)) :
    NL (tLc (iList K tl) (gTup K 2 (gCons (gName i) (gCons (gName j) gNil))) tt te vs) σ H ((ps.filter f).map g) := fun H1 e Q k =>
  lcP_core f (fun H vs qs => Tps H vs (qs.map g)) (fun _ => .nil) (fun _ _ _ _ e h => h.mono e) (fun _ _ _ _ _ _ hd h => h.upd hd) hw hs hz ht (fun q hq hf H1 e1 acc qs hr Q k => he q hq hf H1 e1 H1 (Ex.refl _) Q fun v H2 e2 tv => k _ H2 e2 (by rw [List.map_append]; exact pr_app (hr.mono e2) (.cons tv .nil))) H1 e Q
    fun p H2 vs np e2 hp hr => k p H2 np e2 ⟨vs, hp, hr⟩
theorem lcP_pairs {i j : Nat} {vs : List Nat} (g : P2 → P2) (hw : ∀ x y, wipe (((wipe σ vs).set i (some x)).set j (some y)) vs = wipe σ vs) (hs : SL tl σ H ps) (hz : ps.length ≤ 50000)
    (he : ∀ q ∈ ps, ∀ H1, Ex H H1 → NP te (((wipe σ vs).set i (some (.int q.1))).set j (some (.int q.2))) H1 (g q)) :
    NL (tLc (iList K tl) (gTup K 2 (gCons (gName i) (gCons (gName j) gNil))) tYes te vs) σ H (ps.map g) := by
  have := lcP_pair (K := K) (tt := tYes) (fun _ => true) g hw hs hz (fun _ _ _ _ => et_yes) (fun q hq _ => he q hq)
  rw [List.filter_eq_self.mpr (fun _ _ => rfl)] at this
  exact this
/-- over pairs by one name: a value of each -/
theorem lcN_all {i : Nat} {vs : List Nat} (g : P2 → V) (hw : ∀ x, wipe ((wipe σ vs).set i (some x)) vs = wipe σ vs) (hs : SL tl σ H ps) (hz : ps.length ≤ 50000)
    (he : ∀ q ∈ ps, ∀ H1 x, Ex H H1 → Tp H1 x q → Ev te ((wipe σ vs).set i (some x)) H1 (g q)) :
    EvL (tLc (iList K tl) (gName i) tYes te vs) σ H (ps.map g) := fun H0 e0 Q k =>
  hs H0 e0 _ fun a H1 e1 hp => by
    obtain ⟨xs, hx, hxp⟩ := hp
    refine ⟨a, rfl, ⟨xs, SqL.of hx⟩, fun Dl hD => ?_⟩
    have nad : a ≠ Dl := fun z => by rw [z, hD] at hx; cases hx
    refine lc_list (xs := xs) (fun n H' => Ex H1 H' ∧ H' Dl = some (.lst ((ps.take n).map g)) ∧ H' a = some (.lst xs) ∧ Tps H' xs ps)
      ⟨Ex.new hD, upd_same, by rw [upd_ne nad]; exact hx, hxp.mono (Ex.new hD)⟩ (fun n H' _ ⟨_, _, h, _⟩ => SqL.of h) ?_ ?_
    · rintro n x H' hn ⟨e2, hd, ha, ht2⟩
      obtain ⟨q, hq, tq⟩ := pr_get ht2 hn
      refine ⟨hw _, ?_⟩
      have hnl : n < ps.length := (List.getElem?_eq_some_iff.mp hq).1
      have e02 := (e0.trans e1).trans e2
      refine he q (List.mem_of_getElem? hq) H' x e02 tq H' (Ex.refl _) _ fun H3 e3 => ⟨_, e3 _ _ hd, sz_lt (by rw [List.length_map, List.length_take]; omega), Ex.mut (e2.trans e3) hD, ?_, by rw [upd_ne nad]; exact e3 _ _ ha, (ht2.mono e3).upd (e3 _ _ hd)⟩
      rw [take_snoc hq, List.map_append]
      exact upd_same
    · rintro H' ⟨e2, hd, ha, ht2⟩
      have el := pr_len hxp
      rw [el, List.take_length] at hd
      exact k Dl H' (Evl.fresh_back e1 hD) (e1.trans e2) hd
/-! sums, all, any -/
theorem e_sum {ns : List Int} (h : EvL ta σ H (ns.map V.int)) : Ev (tCB (rSum K) (tCons ta tNil)) σ H (.int ns.sum) := fun H1 e Q k =>
  h H1 e _ fun p H2 _ e2 hp => ⟨p, ns, rfl, SqL.of hp, k H2 e2⟩
theorem e_any {bs : List Bool} (h : EvL ta σ H (bs.map V.bl)) : Ev (tCB (rAny K) (tCons ta tNil)) σ H (.bl (bs.any id)) := fun H1 e Q k =>
  h H1 e _ fun p H2 _ e2 hp => ⟨p, bs, rfl, SqL.of hp, k H2 e2⟩
theorem e_all {bs : List Bool} (h : EvL ta σ H (bs.map V.bl)) : Ev (tCB (rAll K) (tCons ta tNil)) σ H (.bl (bs.all id)) := fun H1 e Q k =>
  h H1 e _ fun p H2 _ e2 hp => ⟨p, bs, rfl, SqL.of hp, k H2 e2⟩
theorem el_is {xs ys : List V} (h : EvL ta σ H xs) (e : xs = ys) : EvL ta σ H ys := e ▸ h
theorem e_intB {b : Bool} (h : Ev ta σ H (.bl b)) : Ev (tCB (fun xs H Q => (∃ i, xs = [.int i] ∧ Q (.int i) H) ∨ ∃ k, xs = [.bl k] ∧ Q (.int (if k then 1 else 0)) H) (tCons ta tNil)) σ H (.int (if b then 1 else 0)) := fun H1 e Q k =>
  h H1 e _ fun H2 e2 => .inr ⟨b, rfl, k H2 e2⟩
/-- a <= b <= c -/
theorem e_chain {i j k : Int} (ha : Ev ta σ H (.int i)) (hb : Ev tb σ H (.int j)) (hc : Ev te σ H (.int k)) :
    Ev (tChain (rI0 fun i j => .bl (decide (i ≤ j))) (rI0 fun i j => .bl (decide (i ≤ j))) ta tb te) σ H (.bl (decide (i ≤ j) && decide (j ≤ k))) := fun H1 e Q q =>
  ha H1 e _ fun H2 e2 => hb H2 (e.trans e2) _ fun H3 e3 => ⟨i, j, rfl, rfl, decide (i ≤ j), rfl, by
    by_cases c : i ≤ j
    · rw [decide_eq_true c] at q ⊢
      rw [if_pos rfl]
      exact hc H3 ((e.trans e2).trans e3) _ fun H4 e4 => ⟨j, k, rfl, rfl, by rw [Bool.true_and] at q; exact q H4 ((e2.trans e3).trans e4)⟩
    · rw [decide_eq_false c] at q ⊢
      rw [if_neg Bool.false_ne_true]
      rw [Bool.false_and] at q
      exact q H3 (e2.trans e3)⟩
theorem e_eqIV {i j : Int} (ha : Ev ta σ H (.int i)) (hb : Ev tb σ H (.int j)) : Ev (tOp rEq ta tb) σ H (.bl (decide (i = j))) := ev_is2 (ev_op ha hb (rv_eq rfl)) (by congr 1; rw [Bool.eq_iff_iff]; simp)
theorem e_neIV {i j : Int} (ha : Ev ta σ H (.int i)) (hb : Ev tb σ H (.int j)) : Ev (tOp rNe ta tb) σ H (.bl (!decide (i = j))) := ev_is2 (ev_op ha hb (rv_ne rfl)) (by congr 2; rw [Bool.eq_iff_iff]; simp)
theorem e_neB {b c : Bool} (ha : Ev ta σ H (.bl b)) (hb : Ev tb σ H (.bl c)) : Ev (tOp rNe ta tb) σ H (.bl (!decide (b = c))) := ev_is2 (ev_op ha hb (rv_ne rfl)) (by congr 2; rw [Bool.eq_iff_iff]; simp)
theorem e_geV {i j : Int} (ha : Ev ta σ H (.int i)) (hb : Ev tb σ H (.int j)) : Ev (tOp (rI0 fun i j => .bl (decide (j ≤ i))) ta tb) σ H (.bl (decide (j ≤ i))) := ev_op ha hb (rv_I0 (g := fun i j => .bl (decide (j ≤ i))))
end
end Sp

set_option Elab.async false
set_option linter.all false
set_option maxRecDepth 100000
set_option maxHeartbeats 4000000
namespace Sp
open PySem L2 Mth
open Evl (Ex)
theorem bd_tri {n : Nat} {i : Int} (h : Bd n i) : Bd (n + (n + 1)) (i * (i + 1) / 2) := by
  have h2 : Bd (n + (n + 1)) (i * (i + 1)) := by
    by_cases z : n = 0
    · subst z
      have : i = 0 := by unfold Bd at h; omega
      subst this
      unfold Bd; decide
    · refine Bd.mul h (Bd.add h ?_)
      unfold Bd
      exact Nat.one_lt_two_pow z
  exact h2.le (Int.natAbs_ediv_le_natAbs _ _)
theorem Sm.perm {N M : Int} {l m : List P2} (p : l.Perm m) (h : Sm N M l) : Sm N M m := ⟨fun b hb => h.pos b (p.mem_iff.mpr hb), by rw [← sm_perm _ p]; exact h.cnt, by rw [← sm_perm _ p]; exact h.tot⟩
theorem Sm.app {N M : Int} : ∀ {rest st : List P2}, Sm N M (st ++ rest) → Sm N M (rest.foldl Mth.push st)
  | [], st, h => by rw [List.append_nil] at h; exact h
  | c :: r, st, h => by
    refine Sm.app (rest := r) (st := Mth.push st c) ?_
    have h1 : Sm N M (c :: (st ++ r)) := h.perm (by
      rw [show st ++ c :: r = st ++ ([c] ++ r) from rfl]
      exact List.perm_middle)
    -- push on st alone; the rest beside
    have h2 : ∀ (st : List P2) (c : P2), Sm N M (c :: (st ++ r)) → Sm N M (Mth.push st c ++ r) := by
      intro st
      induction st with
      | nil => intro c h; exact h
      | cons a t ih =>
        intro c h
        show Sm N M ((if bFirst c ≤ bEnd a then Mth.push t (Mth.bAdd a c) else c :: a :: t) ++ r)
        split
        · exact ih (Mth.bAdd a c) (Sm.bAdd (st := t ++ r) h)
        · exact h
    exact h2 st c h1
theorem groups_sm {hs : List P2} (h : Ok hs) : Sm (sm (·.2) hs) (sm (fun h => ((h.2 * h.1).natAbs : Int)) hs) (groups hs) := by
  have key : ∀ l : List P2, Ok l → Sm (sm (·.2) l) (sm (fun h => ((h.2 * h.1).natAbs : Int)) l) ((l.filter fun h => decide (0 < h.2)).map fun h => (h.2, h.2 * h.1)) := by
    intro l
    induction l with
    | nil => intro _; exact ⟨(fun _ h => nomatch h), Int.le_refl _, Int.le_refl _⟩
    | cons x r ih =>
      intro hl
      obtain ⟨i1, i2, i3⟩ := ih fun y hy => hl y (List.mem_cons_of_mem _ hy)
      have hx := hl x List.mem_cons_self
      rw [sm_cons, sm_cons]
      by_cases c : 0 < x.2
      · rw [List.filter_cons_of_pos (by simpa using c), List.map_cons]
        refine ⟨fun b hb => ?_, ?_, ?_⟩
        · rcases List.mem_cons.mp hb with rfl | hb
          · exact c
          · exact i1 b hb
        · rw [sm_cons]; show x.2 + _ ≤ _; omega
        · rw [sm_cons]; show ((x.2 * x.1).natAbs : Int) + _ ≤ _; omega
      · rw [List.filter_cons_of_neg (by simpa using c)]
        exact ⟨i1, by omega, by omega⟩
  have := key (sortP hs) (h.perm (sortP_perm hs))
  rw [sm_perm _ (sortP_perm hs), sm_perm _ (sortP_perm hs)] at this
  exact this
theorem stack_sm {hs : List P2} (h : Ok hs) : Sm (sm (·.2) hs) (sm (fun h => ((h.2 * h.1).natAbs : Int)) hs) (stack hs) := by
  rw [← groups_stack]
  exact Sm.app (by rw [List.nil_append]; exact groups_sm h)
theorem Sz.small {N M : Int} {hs l : List P2} (sz : Sz hs) (h : Sm (sm (·.2) hs) (sm (fun h => ((h.2 * h.1).natAbs : Int)) hs) l) {b : P2} (hb : b ∈ l) : 0 < b.1 ∧ Bd 400 b.1 ∧ Bd 800 b.2 := by
  obtain ⟨h1, h2, h3⟩ := h.mem hb
  exact ⟨h1, sz.cnt.le (by omega), sz.tot.le (by omega)⟩
theorem bFirst_bd {b : P2} (h1 : Bd 400 b.1) (h2 : Bd 800 b.2) : Bd 803 (bFirst b) := by
  have hs : Bd 801 (b.1 * (b.1 + 1) / 2) := (bd_tri h1).mono (by decide)
  have one1 : Bd 802 1 := Nat.one_lt_two_pow (by decide)
  refine Bd.add (n := 802) ?_ one1
  refine Bd.le (j := b.2 - b.1 * (b.1 + 1) / 2) ?_ (Int.natAbs_ediv_le_natAbs _ _)
  unfold Bd at *
  rw [show 802 = 801 + 1 from rfl, Nat.pow_succ]
  have : 2 ^ 800 ≤ 2 ^ 801 := Nat.pow_le_pow_right (by decide) (by decide)
  omega
theorem join1_mem {J : List P2} {p q : P2} (h : q ∈ join1 J p) : (q.1 = p.1 ∨ ∃ z ∈ J, q.1 = z.1) ∧ (q.2 = p.2 ∨ ∃ z ∈ J, q.2 = z.2) := by
  cases J with
  | nil =>
    rcases List.mem_singleton.mp h with rfl
    exact ⟨.inl rfl, .inl rfl⟩
  | cons a r =>
    rw [show join1 (a :: r) p = if a.2 + 1 = p.1 then (a.1, p.2) :: r else p :: a :: r from rfl] at h
    split at h
    · rcases List.mem_cons.mp h with rfl | h
      · exact ⟨.inr ⟨a, List.mem_cons_self, rfl⟩, .inl rfl⟩
      · exact ⟨.inr ⟨q, List.mem_cons_of_mem _ h, rfl⟩, .inr ⟨q, List.mem_cons_of_mem _ h, rfl⟩⟩
    · rcases List.mem_cons.mp h with rfl | h
      · exact ⟨.inl rfl, .inl rfl⟩
      · exact ⟨.inr ⟨q, h, rfl⟩, .inr ⟨q, h, rfl⟩⟩
theorem joins_mem : ∀ {ps J : List P2} {q : P2}, q ∈ ps.foldl join1 J → (∃ z, (z ∈ J ∨ z ∈ ps) ∧ q.1 = z.1) ∧ ∃ z, (z ∈ J ∨ z ∈ ps) ∧ q.2 = z.2
  | [], J, q, h => ⟨⟨q, .inl h, rfl⟩, ⟨q, .inl h, rfl⟩⟩
  | p :: r, J, q, h => by
    obtain ⟨⟨z1, m1, e1⟩, ⟨z2, m2, e2⟩⟩ := joins_mem (ps := r) (J := join1 J p) h
    refine ⟨?_, ?_⟩
    · rcases m1 with m1 | m1
      · rcases (join1_mem m1).1 with e | ⟨w, hw, e⟩
        · exact ⟨p, .inr List.mem_cons_self, e1.trans e⟩
        · exact ⟨w, .inl hw, e1.trans e⟩
      · exact ⟨z1, .inr (List.mem_cons_of_mem _ m1), e1⟩
    · rcases m2 with m2 | m2
      · rcases (join1_mem m2).2 with e | ⟨w, hw, e⟩
        · exact ⟨p, .inr List.mem_cons_self, e2.trans e⟩
        · exact ⟨w, .inl hw, e2.trans e⟩
      · exact ⟨z2, .inr (List.mem_cons_of_mem _ m2), e2⟩
theorem stretch_bd {hs : List P2} (sz : Sz hs) : ∀ p ∈ stretches hs, Bd 810 p.1 ∧ Bd 810 p.2 := by
  have key : ∀ p ∈ (stack hs).reverse.flatMap bParts, Bd 810 p.1 ∧ Bd 810 p.2 := by
    intro p hp
    obtain ⟨b, hb, hp⟩ := List.mem_flatMap.mp hp
    obtain ⟨h0, h1, h2⟩ := sz.small (N := 0) (M := 0) (stack_sm sz.ok) (List.mem_reverse.mp hb)
    have hf := bFirst_bd h1 h2
    obtain ⟨i1, i2, i3⟩ := parts_in h0 hp
    have he : bEnd b ≤ bFirst b + b.1 := by
      obtain ⟨g1, g2⟩ := bGap_bounds h0
      unfold bEnd
      unfold bLast at *
      split <;> omega
    have p1 : 2 ^ 400 ≤ 2 ^ 803 := Nat.pow_le_pow_right (by decide) (by decide)
    have p2 : 2 ^ 803 + 2 ^ 803 ≤ 2 ^ 810 := by
      have : 2 ^ 804 ≤ 2 ^ 810 := Nat.pow_le_pow_right (by decide) (by decide)
      rw [show 804 = 803 + 1 from rfl, Nat.pow_succ] at this
      omega
    unfold Bd at *
    omega
  intro p hp
  have hp : p ∈ joins ((stack hs).reverse.flatMap bParts) := List.mem_reverse.mp hp
  obtain ⟨⟨z1, m1, e1⟩, ⟨z2, m2, e2⟩⟩ := joins_mem hp
  rw [e1, e2]
  refine ⟨?_, ?_⟩
  · rcases m1 with m | m
    · exact nomatch m
    · exact (key z1 m).1
  · rcases m2 with m | m
    · exact nomatch m
    · exact (key z2 m).2
end Sp
namespace Sp
open PySem L2 Mth Evl
section
variable {K : PySem.W.Frag} {σ : L2.St} {H H' : Hp} {ta tb te to ti : TE} {x y v : V} {p q : P2} {ps qs : List P2} {a l : Addr} {D : Ends} {tz : TS}
theorem pr_erase {α β : Type} {F : α → β → Prop} {xs : List α} {ys : List β} (n : Nat) (h : Paired F xs ys) : Paired F (xs.eraseIdx n) (ys.eraseIdx n) := by
  induction h generalizing n with
  | nil => exact .nil
  | cons r t ih =>
    cases n with
    | zero => exact t
    | succ n => exact .cons r (ih n)
/-- l[i] = pair -/
theorem q_setP {j : Nat} (hl : PL H l ps) (h : NP te σ H q) (ho : Ev to σ H (.ref l)) (hi : Ev ti σ H (.int (j : Int))) (hj : j < ps.length)
    (k : ∀ H1 vs vs', Ex H H1 → H1 l = some (.lst vs) → Tps (upd H1 l (.lst vs')) vs' (ps.set j q) → tz D σ (upd H1 l (.lst vs'))) : tSeq (tAsg te (gSub to ti rSetL)) tz D σ H :=
  h H (Ex.refl _) _ fun v H1 e1 tv => ho H1 e1 _ fun H2 e2 => hi H2 (e1.trans e2) _ fun H3 e3 => by
    obtain ⟨vs, h1, h2⟩ := hl.mono ((e1.trans e2).trans e3)
    refine ⟨l, vs, (j : Int), j, rfl, rfl, h1, ixN_nat (by rw [pr_len h2]; exact hj), ?_⟩
    exact k H3 vs (vs.set j v) ((e1.trans e2).trans e3) h1 (pr_set j (h2.upd h1) ((tv.mono (e2.trans e3)).upd h1))
/-- l.pop(i) -/
theorem q_popAt {j : Nat} (hl : PL H l ps) (ho : Ev to σ H (.ref l)) (hi : Ev ti σ H (.int (j : Int))) (hj : j < ps.length) (hz : ps.length ≤ 100000)
    (k : ∀ H1 vs vs', Ex H H1 → H1 l = some (.lst vs) → Tps (upd H1 l (.lst vs')) vs' (ps.eraseIdx j) → tz D σ (upd H1 l (.lst vs'))) : tSeq (tDrop (tBM K "list" rPopAt to (tCons ti tNil))) tz D σ H :=
  ho H (Ex.refl _) _ fun H1 e1 => by
    obtain ⟨vs, h1, h2⟩ := hl.mono e1
    refine ⟨.inl ⟨rfl, _, SqL.of h1⟩, hi H1 e1 _ fun H2 e2 => ?_⟩
    have h1' := e2 _ _ h1
    have h2' := h2.mono e2
    have hjv : j < vs.length := by rw [pr_len h2]; exact hj
    refine ⟨l, vs, (j : Int), j, vs[j]'hjv, rfl, rfl, h1', by omega, by omega, (ixN_seq (ixN_nat hjv)).1, List.getElem?_eq_getElem hjv, ?_⟩
    exact k H2 vs (vs.eraseIdx j) (e1.trans e2) h1' (pr_erase j (h2'.upd h1'))
/-- l.append(pair) -/
theorem q_appP (hl : PL H l ps) (ho : Ev to σ H (.ref l)) (h : NP te σ H q) (hz : ps.length < 100000)
    (k : ∀ H1 vs vs', Ex H H1 → H1 l = some (.lst vs) → Tps (upd H1 l (.lst vs')) vs' (ps ++ [q]) → tz D σ (upd H1 l (.lst vs'))) : tSeq (tDrop (tBM K "list" rAppend to (tCons te tNil))) tz D σ H :=
  ho H (Ex.refl _) _ fun H1 e1 => by
    obtain ⟨vs, h1, h2⟩ := hl.mono e1
    refine ⟨.inl ⟨rfl, _, SqL.of h1⟩, h H1 e1 _ fun v H2 e2 tv => ?_⟩
    have h1' := e2 _ _ h1
    exact ⟨l, vs, v, rfl, rfl, h1', by rw [pr_len h2]; exact sz_lt hz, k H2 vs (vs ++ [v]) (e1.trans e2) h1' (pr_app ((h2.mono e2).upd h1') (.cons (tv.upd h1') .nil))⟩
theorem s_appP (hl : PL H l ps) (ho : Ev to σ H (.ref l)) (h : NP te σ H q) (hz : ps.length < 100000)
    (k : ∀ H1 vs vs', Ex H H1 → H1 l = some (.lst vs) → Tps (upd H1 l (.lst vs')) vs' (ps ++ [q]) → D.nx σ (upd H1 l (.lst vs'))) : tDrop (tBM K "list" rAppend to (tCons te tNil)) D σ H :=
  q_appP (tz := fun D σ H => D.nx σ H) (D := D) hl ho h hz k
/-- l.pop(), thrown away -/
theorem q_popL {to : TE} (hl : PL H l (ps ++ [q])) (ho : Ev to σ H (.ref l)) (k : ∀ H1 vs vs', Ex H H1 → H1 l = some (.lst vs) → Tps (upd H1 l (.lst vs')) vs' ps → tz D σ (upd H1 l (.lst vs'))) : tSeq (tDrop (tBM0 K "list" rPop to)) tz D σ H :=
  ho H (Ex.refl _) _ fun H1 e1 => by
    obtain ⟨vs, h1, h2⟩ := hl.mono e1
    obtain ⟨us, x, rfl, r1, r2⟩ := pr_last h2
    refine ⟨.inl ⟨rfl, _, SqL.of h1⟩, l, _, x, rfl, rfl, h1, last_at _ _, ?_⟩
    rw [List.dropLast_concat]
    exact k H1 _ us e1 h1 (Tps.upd h1 r1)
theorem et_isN {b : Bool} (ha : Ev ta σ H x) (e : decide (x = .non) = b) : EvT (tTest (tOp (fun x y H Q => y = .non ∧ Q (.bl (decide (x = .non))) H) ta (tC .non))) σ H b := et_test (ev_is2 (ev_op (y := .non) ha ev_c fun H1 _ Q q => ⟨rfl, q H1 (Ex.refl _)⟩) (by rw [e]))
/-- for x in a list of pairs that is made there -/
theorem q_forS {tl : TE} {g : TG} {tu : TS} (h : SL tl σ H ps) (Pv : Addr → List V → Nat → L2.St → Hp → Prop) (h0 : ∀ p vs H1, Ex H H1 → H1 p = some (.lst vs) → Tps H1 vs ps → Pv p vs 0 σ H1) (hl : ∀ p vs i σ' H', i ≤ vs.length → Pv p vs i σ' H' → SqL K H' p vs)
    (hs : ∀ p vs i x σ' H', vs[i]? = some x → Pv p vs i σ' H' → g x σ' H' fun σ2 H2 => tu { D with nx := Pv p vs (i + 1), ct := Pv p vs (i + 1), bk := tz D } σ2 H2) (hd : ∀ p vs σ' H', vs.length = ps.length → Pv p vs vs.length σ' H' → tz D σ' H') : tSeq (tFor (iList K tl) g tu) tz D σ H :=
  h H (Ex.refl H) _ fun p H1 e hp => by
    obtain ⟨vs, h1, h2⟩ := hp
    exact ⟨p, rfl, ⟨vs, sq_of h1⟩, for_list (Pv p vs) (h0 p vs H1 e h1 h2) (hl p vs) (hs p vs) (hd p vs · · (pr_len h2))⟩
theorem s_forS {tl : TE} {g : TG} {tu : TS} (h : SL tl σ H ps) (Pv : Addr → List V → Nat → L2.St → Hp → Prop) (h0 : ∀ p vs H1, Ex H H1 → H1 p = some (.lst vs) → Tps H1 vs ps → Pv p vs 0 σ H1) (hl : ∀ p vs i σ' H', i ≤ vs.length → Pv p vs i σ' H' → SqL K H' p vs)
    (hs : ∀ p vs i x σ' H', vs[i]? = some x → Pv p vs i σ' H' → g x σ' H' fun σ2 H2 => tu { D with nx := Pv p vs (i + 1), ct := Pv p vs (i + 1), bk := D.nx } σ2 H2) (hd : ∀ p vs σ' H', vs.length = ps.length → Pv p vs vs.length σ' H' → D.nx σ' H') : tFor (iList K tl) g tu D σ H :=
  q_forS (tz := fun D σ H => D.nx σ H) h Pv h0 hl hs hd
/-- .. a new list -/
theorem s_forN {tl : TE} {g : TG} {tu : TS} (h : NL tl σ H ps) (Pv : Addr → List V → Nat → L2.St → Hp → Prop) (h0 : ∀ p vs H1, H p = none → Ex H H1 → H1 p = some (.lst vs) → Tps H1 vs ps → Pv p vs 0 σ H1) (hl : ∀ p vs i σ' H', i ≤ vs.length → Pv p vs i σ' H' → SqL K H' p vs)
    (hs : ∀ p vs i x σ' H', vs[i]? = some x → Pv p vs i σ' H' → g x σ' H' fun σ2 H2 => tu { D with nx := Pv p vs (i + 1), ct := Pv p vs (i + 1), bk := D.nx } σ2 H2) (hd : ∀ p vs σ' H', vs.length = ps.length → Pv p vs vs.length σ' H' → D.nx σ' H') : tFor (iList K tl) g tu D σ H :=
  h H (Ex.refl H) _ fun p H1 np e hp => by
    obtain ⟨vs, h1, h2⟩ := hp
    exact ⟨p, rfl, ⟨vs, sq_of h1⟩, for_list (Pv p vs) (h0 p vs H1 np e h1 h2) (hl p vs) (hs p vs) (hd p vs · · (pr_len h2))⟩
end
end Sp

set_option Elab.async false
set_option linter.all false
set_option maxRecDepth 100000
set_option maxHeartbeats 1000000
namespace Sp
open PySem L2 Mth Evl
/-- some list of values, new or not -/
def VL (te : TE) (σ : L2.St) (H : Hp) (xs : List V) : Prop := ∀ H1, Ex H H1 → ∀ Q : VK, (∀ p H2, Ex H1 H2 → H2 p = some (.lst xs) → Q (.ref p) H2) → te σ H1 Q
section
variable {K : PySem.W.Frag} {σ : L2.St} {H H' : Hp} {ta tb te tl : TE} {tt : TT} {x y v : V} {xs ys : List V} {a : Addr} {D : Ends} {tz tu : TS}
theorem vl_of (ha : Ev te σ H (.ref a)) (h : H a = some (.lst xs)) : VL te σ H xs := fun H1 e Q k => ha H1 e _ fun H2 e2 => k a H2 e2 (e2 _ _ (e _ _ h))
theorem vl_new (h : EvL te σ H xs) : VL te σ H xs := fun H1 e Q k => h H1 e Q fun p H2 _ e2 hp => k p H2 e2 hp
theorem el_cat (ha : VL ta σ H xs) (hb : VL tb σ H ys) (hz : xs.length + ys.length ≤ 100000) : EvL (tOp rCat ta tb) σ H (xs ++ ys) := fun H1 e Q k =>
  ha H1 e _ fun l H2 e2 h => hb H2 (e.trans e2) _ fun b H3 e3 g =>
    ⟨l, b, xs, ys, rfl, rfl, e3 _ _ h, g, sz_of hz, fun r nr => k r _ (Evl.fresh_back (e2.trans e3) nr) ((e2.trans e3).trans (Ex.new nr)) upd_same⟩
theorem ev_ixV {i : Int} (ha : VL ta σ H xs) (hb : Ev tb σ H (.int i)) (hi : atI xs i = some v) : Ev (tOp (rIxL K) ta tb) σ H v := fun H1 e Q k =>
  ha H1 e _ fun l H2 e2 h => hb H2 (e.trans e2) _ fun H3 e3 => ⟨l, xs, i, v, rfl, rfl, SqL.of (e3 _ _ h), hi, k H3 (e2.trans e3)⟩
/-- a comprehension over values -/
theorem lcV_all {i : Nat} {vs : List Nat} (g : V → V) (hw : ∀ x, wipe ((wipe σ vs).set i (some x)) vs = wipe σ vs) (hs : VL tl σ H xs) (hz : xs.length ≤ 50000)
    (he : ∀ x ∈ xs, ∀ H1, Ex H H1 → Ev te ((wipe σ vs).set i (some x)) H1 (g x)) : EvL (tLc (iList K tl) (gName i) tYes te vs) σ H (xs.map g) := fun H0 e0 Q k =>
  hs H0 e0 _ fun a H1 e1 hx => by
    refine ⟨a, rfl, ⟨xs, SqL.of hx⟩, fun Dl hD => ?_⟩
    have nad : a ≠ Dl := fun z => by rw [z, hD] at hx; cases hx
    refine lc_list (xs := xs) (fun n H' => Ex H1 H' ∧ H' Dl = some (.lst ((xs.take n).map g)) ∧ H' a = some (.lst xs))
      ⟨Ex.new hD, upd_same, by rw [upd_ne nad]; exact hx⟩ (fun n H' _ ⟨_, _, h⟩ => SqL.of h) ?_ ?_
    · rintro n x H' hn ⟨e2, hd, ha⟩
      refine ⟨hw _, ?_⟩
      have hnl : n < xs.length := (List.getElem?_eq_some_iff.mp hn).1
      have e02 := (e0.trans e1).trans e2
      refine he x (List.mem_of_getElem? hn) H' e02 H' (Ex.refl _) _ fun H3 e3 => ⟨_, e3 _ _ hd, sz_lt (by rw [List.length_map, List.length_take]; omega), Ex.mut (e2.trans e3) hD, ?_, by rw [upd_ne nad]; exact e3 _ _ ha⟩
      rw [take_snoc hn, List.map_append]
      exact upd_same
    · rintro H' ⟨e2, hd, ha⟩
      rw [List.take_length] at hd
      exact k Dl H' (Evl.fresh_back e1 hD) (e1.trans e2) hd
/-- .. over a written tuple -/
theorem lcT_all {i : Nat} {vs : List Nat} {ta : TA} (g : V → V) (hw : ∀ x, wipe ((wipe σ vs).set i (some x)) vs = wipe σ vs) (hs : EvA ta σ H xs) (hz : xs.length ≤ 50000)
    (he : ∀ x ∈ xs, ∀ H1, Ex H H1 → Ev te ((wipe σ vs).set i (some x)) H1 (g x)) : EvL (tLc (iTup K (tTup ta)) (gName i) tYes te vs) σ H (xs.map g) := fun H0 e0 Q k =>
  hs H0 e0 _ fun H1 e1 => ⟨sz_of (by omega), fun a na => by
    have ea := Ex.new (o := .tup xs) na
    refine ⟨a, rfl, ⟨xs, SqT.of upd_same⟩, fun Dl hD => ?_⟩
    have nad : a ≠ Dl := fun z => by rw [← z, upd_same] at hD; cases hD
    refine lc_tup (xs := xs) (fun n H' => Ex H1 H' ∧ H' Dl = some (.lst ((xs.take n).map g)) ∧ H' a = some (.tup xs))
      ⟨ea.trans (Ex.new hD), upd_same, by rw [upd_ne nad]; exact upd_same⟩ (fun n H' _ ⟨_, _, h⟩ => SqT.of h) ?_ ?_
    · rintro n x H' hn ⟨e2, hd, ha⟩
      refine ⟨hw _, ?_⟩
      have hnl : n < xs.length := (List.getElem?_eq_some_iff.mp hn).1
      have e02 := (e0.trans e1).trans e2
      have hD1 : H1 Dl = none := by rw [upd_ne nad.symm] at hD; exact hD
      refine he x (List.mem_of_getElem? hn) H' e02 H' (Ex.refl _) _ fun H3 e3 => ⟨_, e3 _ _ hd, sz_lt (by rw [List.length_map, List.length_take]; omega), Ex.mut (e2.trans e3) hD1, ?_, by rw [upd_ne nad]; exact e3 _ _ ha⟩
      rw [take_snoc hn, List.map_append]
      exact upd_same
    · rintro H' ⟨e2, hd, ha⟩
      rw [List.take_length] at hd
      have hD1 : H1 Dl = none := by rw [upd_ne nad.symm] at hD; exact hD
      exact k Dl H' (Evl.fresh_back e1 hD1) (e1.trans e2) hd⟩
/-- an if without else, what follows shown once -/
theorem q_whenJ {t : TT} {b : Bool} (M : L2.St → Hp → Prop) (h : EvT t σ H b) (k : ∀ σ' H', M σ' H' → tz D σ' H') (h1 : b = true → ∀ H1, Ex H H1 → (∀ σ' H', M σ' H' → tz D σ' H') → tu { D with nx := tz D } σ H1) (h2 : b = false → ∀ H1, Ex H H1 → M σ H1) : tSeq (tIfS t tu tNext) tz D σ H :=
  q_when h (fun hb H1 e => h1 hb H1 e k) fun hb H1 e => k σ H1 (h2 hb H1 e)
/-- for x in a written tuple -/
theorem s_forTw {j : Nat} {ta : TA} (hs : EvA ta σ H xs) (hz : xs.length ≤ 50000) (Pv : Nat → L2.St → Hp → Prop) (hm : ∀ i σ' H' H2, Ex H' H2 → Pv i σ' H' → Pv i σ' H2) (h0 : ∀ H1, Ex H H1 → Pv 0 σ H1)
    (hx : ∀ i x σ' H', xs[i]? = some x → Pv i σ' H' → tu { D with nx := fun σ2 H2 => Ex H' H2 ∧ Pv (i + 1) σ2 H2, ct := fun σ2 H2 => Ex H' H2 ∧ Pv (i + 1) σ2 H2, bk := D.nx } (σ'.set j (some x)) H') (hd : ∀ σ' H', Pv xs.length σ' H' → D.nx σ' H') : tFor (iTup K (tTup ta)) (gName j) tu D σ H :=
  hs H (Ex.refl _) _ fun H1 e1 => ⟨sz_of (by omega), fun a na => ⟨a, rfl, ⟨xs, SqT.of upd_same⟩, by
    refine ⟨fun i m σ' H' => m = xs.length - i ∧ i ≤ xs.length ∧ SqT K H' a xs ∧ Pv i σ' H', ⟨_, rfl, Nat.zero_le _, SqT.of upd_same, h0 _ (e1.trans (Ex.new na))⟩, ?_⟩
    rintro i m σ' H' ⟨rfl, hi, hq, p⟩
    by_cases hlt : i < xs.length
    · refine .inr ⟨⟨xs, xs[i], hq, by simp [hlt]⟩, fun σ2 H2 => Ex H' H2 ∧ Pv (i + 1) σ2 H2, fun σ2 H2 ⟨e2, p2⟩ => ⟨xs.length - (i + 1), by omega, rfl, hlt, ex_t e2 hq, p2⟩, fun x H2 y => ?_⟩
      obtain ⟨e, y⟩ := y
      subst e
      exact hx i x σ' _ (y xs hq) p
    · have e : i = xs.length := by omega
      subst e
      exact .inl ⟨⟨xs, hq, Nat.le_refl _⟩, hd σ' H' p⟩⟩⟩
end
end Sp

set_option Elab.async false
set_option linter.all false
set_option maxRecDepth 100000
set_option maxHeartbeats 1000000
namespace Sp
open PySem L2 Mth PyProof PyProof.Rows
/-! ### range(a, b) of any whole numbers -/
def iRngW : TA → TI := fun ta σ H R => ta σ H fun vs H1 => ∃ i j : Int, vs = [.int i, .int j] ∧ R (Itr i (j - i).toNat) H1
theorem turn_long {P : Program} {w : World} {K : PySem.W.Frag} {tg : Expr} (it : Addr) (lo : Int) (n : Nat) :
    Turn P w K tg (Itr lo n) [it] it fun i h => i ≤ n ∧ IsLongIter h it (lo + (i : Int) * 1) ((n : Int) - i) 1 where
  mem := by simp
  obj := fun i h st b hb => by
    rcases List.mem_singleton.mp hb with rfl
    exact ⟨_, st.2, fun v z => nomatch z⟩
  keep := fun i h h' st k => ⟨st.1, k it (by simp) _ st.2⟩
  item := fun X hP hw hK hc i pins s σ H E I hf st hg => by
    subst hP
    subst hw
    obtain ⟨f0, f1, f2, f3, f4, f5⟩ := hf it (by simp)
    have W := Walks.longrange (prog := X.prog) (w := X.w) (I.ok.hd hc) it lo 1 n
    refine W.item i s _ E hg st.2 fun v h' tk hv st' kk => ?_
    obtain ⟨t, rfl⟩ := hv
    have hg : i < n := hg
    refine ⟨_, rfl, go_of st' rfl rfl (by decide) ⟨.int (lo + i), H, Inv.turned I (fun b o hb e => kk b o (by simpa using hb) e) f0 f1 f3 f4 f5, ⟨t, ?_⟩, ⟨rfl, rfl⟩, ⟨by omega, st'⟩, fun b hb => (hf b hb).1⟩⟩
    rw [Int.mul_one]
  done := fun X hP hw hK hc i pins s σ H E I hf st hg => by
    subst hP
    subst hw
    obtain ⟨f0, f1, f2, f3, f4, f5⟩ := hf it (by simp)
    have W := Walks.longrange (prog := X.prog) (w := X.w) (I.ok.hd hc) it lo 1 n
    obtain ⟨h1, h2⟩ := st
    have hg : n ≤ i := hg
    have e : i = n := by omega
    subst e
    exact W.done s _ E h2 fun h' tk kk => ⟨rfl, Inv.turned I (fun b o hb e => kk b o (by simpa using hb) e) f0 f1 f3 f4 f5⟩
  self := fun A i s Q E st h => wpAny_pyIter_longiter st.2 h
theorem rangeW_it {X : Cx} {tg : Expr} {pins : List (Addr × Obj)} {σ : L2.St} {H : Hp} {s : Shared} {R : It → Hp → Prop} {E : Value → Shared → Prop} {lo hi : Int} {t u v : Tok} {tk : Nat} (I : L2.Inv X pins σ H s) (q : R (Itr lo (hi - lo).toNat) H) :
    wpAny (model X.prog X.w) X.A (pyIter (Value.ref s.heap.objs.size)) (PIE X pins σ tg R) E
      { heap := s.heap.push { cls := Value.type "range", data := Data.fields #[Value.int lo t, Value.int hi u, Value.int 1 v] }, gens := s.gens, drawn := s.drawn, toks := tk, os := s.os } := by
  have I1 := Inv.kept (t' := tk) I fun b o e => Heap.get?_push_of_some (h := s.heap) { cls := Value.type "range", data := Data.fields #[Value.int lo t, Value.int hi u, Value.int 1 v] } e
  have sz : Builtin.Range.rangeSize lo hi 1 = ((hi - lo).toNat : Int) := by
    unfold Builtin.Range.rangeSize
    rw [if_pos (by decide)]
    split <;> omega
  cases hs : Builtin.Range.small lo hi 1 with
  | true =>
    refine wpAny_pyIter_range (IsRange.new s.1 lo hi 1 t u v) hs ?_
    refine ⟨_, [_], _, Itr lo (hi - lo).toNat, H, rfl, Inv.kept I1 fun b o e => Heap.get?_push_of_some _ e, turn_range _ lo (hi - lo).toNat, ?_, ?_, q⟩
    · rw [sz, show lo + ((0 : Nat) : Int) * 1 = lo by omega, show (((hi - lo).toNat : Nat) : Int) - ((0 : Nat) : Int) = ((hi - lo).toNat : Int) by omega]
      exact Heap.get?_push_size _ rfl
    · intro b hb
      rcases List.mem_singleton.mp hb with rfl
      exact Inv.fpOk I1 (Nat.le_refl _) (HOk.fresh I1.hok (Nat.le_refl _))
  | false =>
    refine wpAny_pyIter_longrange (IsRange.new s.1 lo hi 1 t u v) hs ?_
    refine ⟨_, [_], _, Itr lo (hi - lo).toNat, H, rfl, Inv.kept I1 fun b o e => Heap.get?_push_of_some _ e, turn_long _ lo (hi - lo).toNat, ⟨Nat.zero_le _, ?_⟩, ?_, q⟩
    · rw [sz, show lo + ((0 : Nat) : Int) * 1 = lo by omega, show (((hi - lo).toNat : Nat) : Int) - ((0 : Nat) : Int) = ((hi - lo).toNat : Int) by omega]
      exact Heap.get?_push_size _ rfl
    · intro b hb
      rcases List.mem_singleton.mp hb with rfl
      exact Inv.fpOk I1 (Nat.le_refl _) (HOk.fresh I1.hok (Nat.le_refl _))
theorem pi_rangeW {X : Cx} {tg a b : Expr} {ta : TA} {p pos : Pos} (hg : Gl X (Str.ofString "range")) (hm : X.mg (Str.ofString "range") = none) (ha : PA X [a, b] ta) (hs : starEach [a, b] X.env = [(false, eval a X.env), (false, eval b X.env)] := by rfl) (hs2 : starEach [b] X.env = [(false, eval b X.env)] := by rfl) :
    PI X tg ((Expr.Name (Str.ofString "range") p).Call [a, b] [] pos) (iRngW ta) where
  run := fun pins s σ H R I h => by
    refine Call_ (ld_blt I hg hm boot_range (Rows.callWith_type1 (thn (ha.run pos pins s σ H _ I h) fun us s1 x => ?_) (by rw [hs, hs2]) (by rw [hs2]; rfl)) (by decide) (by decide)) rfl
    obtain ⟨vs, H1, I1, r1, i, j, rfl, q⟩ := x
    cases r1 with
    | cons r rr =>
      cases rr with
      | cons r' rr' =>
        cases rr'
        obtain ⟨t, rfl⟩ := r
        obtain ⟨t', rfl⟩ := r'
        exact call_range_2 (rangeW_it I1 q)
open Evl
section
variable {K : PySem.W.Frag} {σ : L2.St} {H : Hp} {te : TE} {ta : TA}
/-- pairs of the whole numbers of a range -/
theorem nl_rng {i : Nat} {vs : List Nat} {lo hi : Int} (g : Int → P2) (hw : ∀ x, wipe ((wipe σ vs).set i (some x)) vs = wipe σ vs) (hs : EvA ta σ H [.int lo, .int hi]) (hz : (hi - lo).toNat ≤ 50000)
    (he : ∀ k H1, Ex H H1 → NP te ((wipe σ vs).set i (some (.int k))) H1 (g k)) : NL (tLc (iRngW ta) (gName i) tYes te vs) σ H ((List.range (hi - lo).toNat).map fun (k : Nat) => g (lo + (k : Int))) := fun H0 e0 Q k =>
  hs H0 e0 _ fun H1 e1 => ⟨lo, hi, rfl, fun Dl hD => by
    refine lc_range (lo := lo) (n := (hi - lo).toNat) (fun n H' => ∃ acc, Ex H1 H' ∧ H' Dl = some (.lst acc) ∧ Tps H' acc ((List.range n).map fun (k : Nat) => g (lo + (k : Int))) ∧ acc.length ≤ n)
      ⟨[], Ex.new hD, upd_same, .nil, Nat.le_refl _⟩ ?_ ?_
    · rintro n H' hn ⟨acc, e2, hd, ht, hl⟩
      refine ⟨hw _, ?_⟩
      have e02 := (e0.trans e1).trans e2
      refine he (lo + n) H' e02 H' (Ex.refl _) _ fun v H3 e3 tv => ?_
      refine ⟨acc, e3 _ _ hd, sz_lt (by omega), acc ++ [v], Ex.mut (e2.trans e3) hD, upd_same, ?_, by rw [List.length_append, List.length_singleton]; omega⟩
      rw [List.range_succ, List.map_append]
      exact pr_app ((ht.mono e3).upd (e3 _ _ hd)) (.cons (tv.upd (e3 _ _ hd)) .nil)
    · rintro H' ⟨acc, e2, hd, ht, hl⟩
      exact k Dl H' (Evl.fresh_back e1 hD) (e1.trans e2) ⟨acc, hd, ht⟩⟩
end
end Sp

set_option Elab.async false
set_option linter.all false
set_option maxRecDepth 100000
set_option maxHeartbeats 1000000
namespace Sp
open PySem L2 Mth PyProof PyProof.Rows



/-! ### max of a dict's keys -/
def rMaxK : List V → Hp → VK → Prop := fun vs H Q => ∃ (a : Addr) (kvs : List (Key × V)) (is : List Int), vs = [V.ref a] ∧ H a = some (.dK kvs) ∧ kvs.map (·.1) = is.map Sum.inl ∧ is ≠ [] ∧ ∀ m, m ∈ is → (∀ j ∈ is, j ≤ m) → Q (.int m) H
theorem cr_maxK {X : Cx} (hc : X.calm = true) : CallR X (.builtin "max") rMaxK := by
  intro pins s σ H vs us Q I r h
  obtain ⟨a, kvs, is, rfl, ha, hv, hne, q⟩ := h
  rw [Vals.ref1 r]
  obtain ⟨_, hsys, vs, rel, dof⟩ := dk_of I.hok ha
  obtain ⟨ep, dat⟩ := Heap.DictOf.dictAt dof
  obtain ⟨ob, es, ho, hex, hdat, hko, hpr, hnd⟩ := id dat
  have hlt := Heap.lt_size ho
  have hkeys := (KV.keys rel).symm.trans hv
  have hlv : vs.length = is.length := by
    have e1 := congrArg List.length hkeys
    rw [List.length_map, List.length_map] at e1
    exact e1
  have hlen : 0 < vs.length := by rw [hlv]; exact List.length_pos_iff.mpr hne
  have hval : ∀ (i : Nat) (v : Value), (∃ (k : Key) (x : Value), vs[i]? = some (k, x) ∧ (mixKind X.prog X.w).is k v = true) → ∃ t, v = Value.int (is.getD i 0) t := by
    rintro i v ⟨k, x, hk, hkey⟩
    have e1 : (vs.map (·.1))[i]? = some k := by rw [List.getElem?_map, hk]; rfl
    rw [hkeys, List.getElem?_map] at e1
    obtain ⟨j, hj, e2⟩ := Option.map_eq_some_iff.mp e1
    subst e2
    obtain ⟨t, e3⟩ := Value.isInt_shape (show _ from hkey)
    exact ⟨t, by rw [e3, List.getD_eq_getElem?_getD, hj]; rfl⟩
  refine call_max_walk (wpAny_pyIter_dict hsys dat ⟨s.heap.objs.size, [s.heap.objs.size, a], [s.heap.objs.size], vs.length, (fun i v => ∃ (k : Key) (x : Value), vs[i]? = some (k, x) ∧ (mixKind X.prog X.w).is k v = true), (fun i h => h.IsKeyIter s.heap.objs.size a i vs.length ep ∧ Heap.DictAt (mixKind X.prog X.w) h a vs ep), (fun i j => decide (is.getD i 0 > is.getD j 0)), rfl, Walks.dictKeys (A := X.A.in1) (knd := mixKind X.prog X.w) (I.ok.hd hc) s.heap.objs.size a (Nat.ne_of_lt hlt) vs ep, ⟨⟨_, Heap.get?_push_size s.1 rfl, rfl, rfl⟩, Heap.DictAt.keep dat fun b u e => Heap.get?_push_of_some _ e⟩, ?_, hlen, CmpOf.ints_gt (fun i => is.getD i 0) hval, ?_⟩)
  · intro b hb
    show b < _
    rw [Heap.size_push]
    rcases List.mem_cons.mp hb with e | hb
    · rw [e]; exact Nat.lt_succ_self _
    · rw [List.mem_singleton.mp hb]; exact Nat.lt_succ_of_lt hlt
  · intro v h' tk hP hk
    obtain ⟨t, rfl⟩ := hval _ v hP
    obtain ⟨b1, b2⟩ := argBest_gt (fun i => is.getD i 0) (vs.length - 1)
    refine ⟨.int _, H, (show L2.Inv X pins σ H { heap := h', gens := s.gens, drawn := s.drawn, toks := tk, os := s.os } from Inv.kept (s := s) (h' := h') I fun b u e => hk b u (fun hmem => ?_) (Heap.get?_push_of_some _ e)), ⟨t, rfl⟩, q _ ?_ fun j hj => ?_⟩
    · have e1 := List.mem_singleton.mp hmem
      have e2 := Heap.lt_size e
      rw [e1] at e2
      exact absurd e2 (Nat.lt_irrefl _)
    · have hb : argBest (fun i j => decide (is.getD i 0 > is.getD j 0)) (vs.length - 1) < is.length := by omega
      rw [List.getD_eq_getElem?_getD, List.getElem?_eq_getElem hb]
      exact List.getElem_mem hb
    · obtain ⟨i, hi, e⟩ := List.mem_iff_getElem.mp hj
      have e2 : is.getD i 0 = j := by rw [List.getD_eq_getElem?_getD, List.getElem?_eq_getElem hi]; exact e
      have := b2 i (by omega)
      rw [e2] at this
      exact this
end Sp

set_option Elab.async false
set_option linter.all false
set_option maxRecDepth 100000
set_option maxHeartbeats 1000000
namespace Sp
open PySem L2 Mth Evl
/-! ### dicts of whole numbers -/
def encD (ps : List P2) : List (Key × V) := ps.map fun q => (Sum.inl q.1, .int q.2)
def DK (H : Hp) (a : Addr) (ps : List P2) : Prop := H a = some (.dK (encD ps))
theorem encD_len (ps : List P2) : (encD ps).length = ps.length := List.length_map ..
theorem encD_keys (ps : List P2) : (encD ps).map (·.1) = (ps.map (·.1)).map Sum.inl := by unfold encD; rw [List.map_map, List.map_map]; rfl
theorem val_no {x : Int} : ∀ {ps : List P2}, x ∉ ps.map (·.1) → valV (encD ps) (Sum.inl x : Key) = none
  | [], _ => rfl
  | q :: r, h => by
    rw [List.map_cons, List.mem_cons] at h
    show valV (((Sum.inl q.1 : Key), V.int q.2) :: encD r) _ = none
    rw [valV_neg (p := ((Sum.inl q.1 : Key), V.int q.2)) (fun e => h (.inl (Sum.inl.inj e).symm))]
    exact val_no fun z => h (.inr z)
theorem val_at {x : Int} : ∀ {ps : List P2}, Kn ps → x ∈ ps.map (·.1) → valV (encD ps) (Sum.inl x : Key) = some (.int (hadF ps x))
  | [], _, h => nomatch h
  | q :: r, k, h => by
    unfold Kn at k
    rw [List.map_cons, List.nodup_cons] at k
    show valV (((Sum.inl q.1 : Key), V.int q.2) :: encD r) _ = _
    rw [had_cons]
    by_cases e : q.1 = x
    · rw [valV_pos (p := ((Sum.inl q.1 : Key), V.int q.2)) (congrArg Sum.inl e), if_pos e, had_no (by rw [← e]; exact k.1)]
      show some (V.int q.2) = _
      rw [show q.2 + 0 = q.2 by omega]
    · rw [valV_neg (p := ((Sum.inl q.1 : Key), V.int q.2)) (fun z => e (Sum.inl.inj z)), if_neg e, Int.zero_add]
      rw [List.map_cons, List.mem_cons] at h
      exact val_at k.2 (h.resolve_left fun z => e z.symm)
theorem val_get {x : Int} {ps : List P2} (k : Kn ps) : (valV (encD ps) (Sum.inl x : Key)).getD (.int 0) = .int (hadF ps x) := by
  by_cases h : x ∈ ps.map (·.1)
  · rw [val_at k h]; rfl
  · rw [val_no h, had_no h]; rfl
theorem map_skip {x v : Int} : ∀ {ps : List P2}, x ∉ ps.map (·.1) → (encD ps).map (fun kv => if kv.1 = (Sum.inl x : Key) then (kv.1, V.int v) else kv) = encD ps
  | [], _ => rfl
  | q :: r, h => by
    rw [List.map_cons, List.mem_cons] at h
    show (if (Sum.inl q.1 : Key) = Sum.inl x then _ else _) :: (encD r).map _ = _
    rw [if_neg (fun z => h (.inl (Sum.inl.inj z).symm)), map_skip fun z => h (.inr z)]
    rfl
theorem put_enc {x v : Int} {ps : List P2} (k : Kn ps) : putK (encD ps) (Sum.inl x : Key) (.int v) = encD (putP ps x v) := by
  unfold putK
  have an : ((encD ps).any fun kv => decide (kv.1 = (Sum.inl x : Key))) = decide (x ∈ ps.map (·.1)) := by
    rw [Bool.eq_iff_iff, List.any_eq_true, decide_eq_true_eq]
    unfold encD
    constructor
    · rintro ⟨kv, h1, h2⟩
      obtain ⟨q, hq, rfl⟩ := List.mem_map.mp h1
      exact List.mem_map.mpr ⟨q, hq, Sum.inl.inj (of_decide_eq_true h2)⟩
    · intro h
      obtain ⟨q, hq, e⟩ := List.mem_map.mp h
      exact ⟨_, List.mem_map.mpr ⟨q, hq, rfl⟩, decide_eq_true (congrArg Sum.inl e)⟩
  rw [an]
  by_cases h : x ∈ ps.map (·.1)
  · rw [decide_eq_true h, if_pos rfl]
    clear an
    induction ps with
    | nil => exact nomatch h
    | cons q r ih =>
      unfold Kn at k
      rw [List.map_cons, List.nodup_cons] at k
      show (if (Sum.inl q.1 : Key) = Sum.inl x then _ else _) :: (encD r).map _ = _
      unfold putP
      by_cases e : q.1 = x
      · rw [if_pos (congrArg Sum.inl e), if_pos e, map_skip (by rw [← e]; exact k.1)]
        show ((Sum.inl q.1 : Key), V.int v) :: encD r = ((Sum.inl x : Key), V.int v) :: encD r
        rw [e]
      · rw [if_neg (fun z => e (Sum.inl.inj z)), if_neg e]
        rw [List.map_cons, List.mem_cons] at h
        rw [ih k.2 (h.resolve_left fun z => e z.symm)]
        rfl
  · rw [decide_eq_false h, if_neg Bool.false_ne_true]
    clear an
    induction ps with
    | nil => rfl
    | cons q r ih =>
      unfold Kn at k
      rw [List.map_cons, List.nodup_cons] at k
      rw [List.map_cons, List.mem_cons] at h
      unfold putP
      rw [if_neg fun z => h (.inl z.symm)]
      show ((Sum.inl q.1 : Key), V.int q.2) :: (encD r ++ [_]) = ((Sum.inl q.1 : Key), V.int q.2) :: encD _
      rw [ih k.2 fun z => h (.inr z)]
def IL (H : Hp) (a : Addr) (ns : List Int) : Prop := H a = some (.lst (ns.map V.int))
section
variable {K : PySem.W.Frag} {σ : L2.St} {H H' : Hp} {ta tb td te ti tx ty tv tl to : TE} {tt : TT} {x y v : V} {xs : List V} {ps qs : List P2} {ns : List Int} {a w : Addr} {D : Ends} {tz tu : TS}
theorem DK.mono (e : Ex H H') (h : DK H a ps) : DK H' a ps := e _ _ h
theorem e_get {z : Int} (ha : Ev td σ H (.ref a)) (h : DK H a ps) (k : Kn ps) (hk : Ev ty σ H (.int z)) : Ev (tDGet2 td ty (tC (.int 0))) σ H (.int (hadF ps z)) := fun H1 e Q q =>
  ha H1 e _ fun H2 e2 => ⟨a, rfl, .inl ⟨_, .inl (h.mono (e.trans e2))⟩, hk H2 (e.trans e2) _ fun H3 e3 => ⟨_, .inl ⟨_, Sum.inl z, .inl (h.mono ((e.trans e2).trans e3)), rfl, rfl⟩, by rw [val_get k]; exact q H3 (e2.trans e3)⟩⟩
theorem e_sub1 {z : Int} (ha : Ev td σ H (.ref a)) (h : DK H a ps) (k : Kn ps) (hk : Ev ty σ H (.int z)) (hz : z ∈ ps.map (·.1)) : Ev (tDGet td ty) σ H (.int (hadF ps z)) := fun H1 e Q q =>
  ha H1 e _ fun H2 e2 => hk H2 (e.trans e2) _ fun H3 e3 => ⟨a, _, rfl, .inl ⟨_, Sum.inl z, .inl (h.mono ((e.trans e2).trans e3)), rfl, (val_at k hz).symm⟩, q H3 (e2.trans e3)⟩
/-- d[k] = v -/
theorem q_put {z m : Int} (hv : Ev tv σ H (.int m)) (ha : Ev td σ H (.ref a)) (hk : Ev ty σ H (.int z)) (h : DK H a ps) (k : Kn ps) (hl : ps.length < 100000)
    (q : ∀ H1, Ex H H1 → tz D σ (upd H1 a (.dK (encD (putP ps z m))))) : tSeq (sDPut td ty tv) tz D σ H :=
  hv H (Ex.refl _) _ fun H1 e1 => ha H1 e1 _ fun H2 e2 => hk H2 (e1.trans e2) _ fun H3 e3 => by
    have e := (e1.trans e2).trans e3
    refine ⟨a, _, rfl, .inl ⟨_, Sum.inl z, h.mono e, rfl, by rw [encD_len]; exact sz_lt hl, rfl⟩, ?_⟩
    rw [put_enc k]
    exact q H3 e
theorem s_put {z m : Int} (hv : Ev tv σ H (.int m)) (ha : Ev td σ H (.ref a)) (hk : Ev ty σ H (.int z)) (h : DK H a ps) (k : Kn ps) (hl : ps.length < 100000)
    (q : ∀ H1, Ex H H1 → D.nx σ (upd H1 a (.dK (encD (putP ps z m))))) : sDPut td ty tv D σ H :=
  q_put (tz := fun D σ H => D.nx σ H) hv ha hk h k hl q
/-! lists of whole numbers -/
theorem il_dp {H : Hp} (h : IL H a ns) : Dp K H (.ref a) (.list (ns.map .int)) := by
  refine .lst (SqL.of h) ?_
  have : ∀ ns : List Int, DpAll K H (ns.map V.int) (ns.map PyData.int) := by
    intro ns
    induction ns with
    | nil => exact .nil
    | cons a r ih => exact .cons (.int _) ih
  exact this ns
theorem il_shp (ns : List Int) : SeqAt.shaped (.list (ns.map .int)) = true := by
  have l1 : ∀ ns : List Int, PyData.canLayAll0 (ns.map PyData.int) = true := by
    intro ns
    induction ns with
    | nil => rfl
    | cons a r ih => rw [List.map_cons, PyData.canLayAll0, ih]; rfl
  have l2 : ∀ ns : List Int, PyData.depthAll (ns.map PyData.int) ≤ 1 := by
    intro ns
    induction ns with
    | nil => exact Nat.zero_le _
    | cons a r ih =>
      rw [List.map_cons, PyData.depthAll]
      refine Nat.max_le.mpr ⟨?_, ih⟩
      simp [PyData.depth]
  unfold SeqAt.shaped
  rw [Bool.and_eq_true]
  refine ⟨?_, decide_eq_true ?_⟩
  · show PyData.canLay0 (.list (ns.map .int)) = true
    rw [PyData.canLay0]
    exact l1 ns
  · rw [PyData.depth]
    have := l2 ns
    omega
theorem et_neI0 (ha : Ev ta σ H (.ref a)) (h : IL H a ns) : EvT (tTest (tOp (rNeD K) ta (tLst tNil))) σ H (!decide (ns = [])) :=
  et_test fun H1 e Q q => ha H1 e _ fun H2 e2 => ⟨Nat.zero_le _, fun b nb => by
    have e3 := Ex.new (o := .lst []) nb
    refine ⟨_, _, il_dp (e3 _ _ ((e.trans e2) _ _ h)), il_dp (ns := []) (show _ = _ from upd_same), il_shp ns, il_shp [], ?_⟩
    have : (PyData.list (ns.map .int)).eqv (.list (([] : List Int).map .int)) = decide (ns = []) := by
      simp only [PyData.eqv]
      cases ns with
      | nil => simp [PyData.eqvAll]
      | cons a r => simp [PyData.eqvAll]
    rw [this]
    exact q _ (e2.trans e3)⟩
theorem idx_of {m : Int} : ∀ {ns : List Int}, m ∈ ns → ∃ j : Nat, ns[j]? = some m ∧ ∀ i : Nat, i < j → ns[i]? ≠ some m
  | [], h => nomatch h
  | b :: r, h => by
    by_cases e : b = m
    · exact ⟨0, by rw [e]; rfl, fun i hi => by omega⟩
    · obtain ⟨j, h1, h2⟩ := idx_of (ns := r) ((List.mem_cons.mp h).resolve_left fun z => e z.symm)
      refine ⟨j + 1, h1, fun i hi => ?_⟩
      cases i with
      | zero => intro z; exact e (Option.some.inj z)
      | succ i => exact h2 i (by omega)
/-- l.remove(x) -/
theorem q_rem {m : Int} (ho : Ev to σ H (.ref w)) (he : Ev te σ H (.int m)) (h : IL H w ns) (hm : m ∈ ns) (k : ∀ H1 (ns' : List Int), Ex H H1 → IL H1 w ns → (∀ y ∈ ns, y ≠ m → y ∈ ns') → (∀ y ∈ ns', y ∈ ns) → ns'.length + 1 = ns.length → tz D σ (upd H1 w (.lst (ns'.map V.int)))) :
    tSeq (tDrop (tBM K "list" rRemI to (tCons te tNil))) tz D σ H :=
  ho H (Ex.refl _) _ fun H1 e1 => ⟨.inl ⟨rfl, _, SqL.of (e1 _ _ h)⟩, he H1 e1 _ fun H2 e2 => by
    obtain ⟨j, h1, h2⟩ := idx_of hm
    have hj := (List.getElem?_eq_some_iff.mp h1).1
    refine ⟨w, ns, m, j, rfl, rfl, (e1.trans e2) _ _ h, h1, h2, ?_⟩
    refine k H2 (ns.eraseIdx j) (e1.trans e2) ((e1.trans e2) _ _ h) (fun y hy hne => ?_) (fun y hy => List.mem_of_mem_eraseIdx hy) ?_
    · obtain ⟨i, hi⟩ := List.mem_iff_getElem?.mp hy
      refine List.mem_eraseIdx_iff_getElem?.mpr ⟨i, fun z => ?_, hi⟩
      rw [z, h1] at hi
      exact hne (Option.some.inj hi).symm
    · rw [List.length_eraseIdx, if_pos hj]
      omega⟩
/-- the least or the greatest, as it comes -/
theorem least_of : ∀ {ns : List Int}, ns ≠ [] → ∃ m ∈ ns, ∀ y ∈ ns, m ≤ y
  | [], h => absurd rfl h
  | a :: r, _ => by
    by_cases e : r = []
    · subst e; exact ⟨a, List.mem_cons_self, fun y hy => by rcases List.mem_singleton.mp hy with rfl; exact Int.le_refl _⟩
    · obtain ⟨m, h1, h2⟩ := least_of e
      by_cases c : a ≤ m
      · refine ⟨a, List.mem_cons_self, fun y hy => ?_⟩
        rcases List.mem_cons.mp hy with rfl | hy
        · exact Int.le_refl _
        · have := h2 y hy; omega
      · refine ⟨m, List.mem_cons_of_mem _ h1, fun y hy => ?_⟩
        rcases List.mem_cons.mp hy with rfl | hy
        · omega
        · exact h2 y hy
theorem q_pick {b : Bool} {i : Nat} (ht : EvT tt σ H b) (ha : Ev ta σ H (.ref w)) (h : IL H w ns) (hne : ns ≠ []) (k : ∀ m ∈ ns, ∀ H1, Ex H H1 → tz D (σ.set i (some (.int m))) H1) :
    tSeq (tAsg (tIf tt (tCB (rMin K) (tCons ta tNil)) (tCB (rMax K) (tCons ta tNil))) (gName i)) tz D σ H :=
  ht H (Ex.refl _) _ fun H1 e1 => by
    have hl : 0 < ns.length := List.length_pos_iff.mpr hne
    cases b with
    | true =>
      rw [if_pos rfl]
      exact ha H1 e1 _ fun H2 e2 => ⟨w, ns, rfl, SqL.of ((e1.trans e2) _ _ h), hl, fun m hm _ => k m hm H2 (e1.trans e2)⟩
    | false =>
      rw [if_neg Bool.false_ne_true]
      exact ha H1 e1 _ fun H2 e2 => ⟨w, ns, rfl, SqL.of ((e1.trans e2) _ _ h), hl, fun m hm _ => k m hm H2 (e1.trans e2)⟩
/-- some new list of whole numbers of a kind -/
def LI (te : TE) (σ : L2.St) (H : Hp) (L : Nat) (P : Int → Prop) : Prop := ∀ H1, Ex H H1 → ∀ Q : VK, (∀ p H2 ns, H1 p = none → Ex H1 H2 → IL H2 p ns → ns.length ≤ L → (∀ z ∈ ns, P z) → Q (.ref p) H2) → te σ H1 Q
theorem li_cat {L M : Nat} {P : Int → Prop} (ha : LI ta σ H L P) (hb : LI tb σ H M P) (hz : L + M ≤ 100000) : LI (tOp rCat ta tb) σ H (L + M) P := fun H1 e Q k =>
  ha H1 e _ fun l H2 ns _ e2 h hl hp => hb H2 (e.trans e2) _ fun b H3 ms _ e3 g gl gp =>
    ⟨l, b, ns.map V.int, ms.map V.int, rfl, rfl, e3 _ _ h, g, by rw [List.length_map, List.length_map]; exact sz_of (by omega), fun r nr => k r _ (ns ++ ms) (Evl.fresh_back (e2.trans e3) nr) ((e2.trans e3).trans (Ex.new nr)) (by unfold IL; rw [List.map_append]; exact upd_same) (by rw [List.length_append]; omega) fun z hz => by
      rcases List.mem_append.mp hz with hz | hz
      · exact hp z hz
      · exact gp z hz⟩
theorem li_sorted {P : Int → Prop} (ha : Ev ta σ H (.ref a)) (h : DK H a ps) (hl : ps.length < 64) (hp : ∀ y ∈ ps.map (·.1), P y) : LI (tCB (fun xs H Q => ∃ (a : Addr) (kvs : List (Key × V)) (ks : List Int), xs = [.ref a] ∧ Rd H a (.dK kvs) ∧ kvs.map (·.1) = ks.map Sum.inl ∧ ks.length < 64 ∧ ∀ (ys : List Int) (p : Addr), ys.Perm ks → ys.Pairwise (· ≤ ·) → H p = none → Q (.ref p) (upd H p (.lst (ys.map V.int)))) (tCons ta tNil)) σ H 64 P := fun H1 e Q k =>
  ha H1 e _ fun H2 e2 => ⟨a, encD ps, ps.map (·.1), rfl, .inl (h.mono (e.trans e2)), encD_keys ps, by rw [List.length_map]; exact hl, fun ys p hy _ np => k p _ ys (Evl.fresh_back e2 np) (e2.trans (Ex.new np)) upd_same (by rw [hy.length_eq, List.length_map]; omega) fun z hz => hp z (hy.mem_iff.mp hz)⟩
/-- some whole number of a kind -/
def WI (te : TE) (σ : L2.St) (H : Hp) (P : Int → Prop) : Prop := ∀ H1, Ex H H1 → ∀ Q : VK, (∀ m H2, P m → Ex H1 H2 → Q (.int m) H2) → te σ H1 Q
theorem wi_of {m : Int} {P : Int → Prop} (h : Ev te σ H (.int m)) (hp : P m) : WI te σ H P := fun H1 e Q k => h H1 e _ fun H2 e2 => k m H2 hp e2
theorem wi_min {P : Int → Prop} (ha : Ev ta σ H (.ref a)) (h : DK H a ps) (hne : ps ≠ []) (hp : ∀ y ∈ ps.map (·.1), P y) : WI (tCB rMinK (tCons ta tNil)) σ H P := fun H1 e Q k =>
  ha H1 e _ fun H2 e2 => ⟨a, encD ps, ps.map (·.1), rfl, h.mono (e.trans e2), encD_keys ps, by simpa using hne, fun m hm _ => k m H2 (hp m hm) e2⟩
theorem wi_max {P : Int → Prop} (ha : Ev ta σ H (.ref a)) (h : DK H a ps) (hne : ps ≠ []) (hp : ∀ y ∈ ps.map (·.1), P y) : WI (tCB rMaxK (tCons ta tNil)) σ H P := fun H1 e Q k =>
  ha H1 e _ fun H2 e2 => ⟨a, encD ps, ps.map (·.1), rfl, h.mono (e.trans e2), encD_keys ps, by simpa using hne, fun m hm _ => k m H2 (hp m hm) e2⟩
theorem wi_sub {P R : Int → Prop} {c : Int} (ha : WI ta σ H P) (hr : ∀ m, P m → R (m - c)) : WI (tOp (rI0 fun i j => .int (i - j)) ta (tC (.int c))) σ H R := fun H1 e Q k =>
  ha H1 e _ fun m H2 hm e2 => ⟨m, c, rfl, rfl, k _ H2 (hr m hm) e2⟩
theorem wi_add {P R : Int → Prop} {c : Int} (ha : WI ta σ H P) (hr : ∀ m, P m → R (m + c)) : WI (tOp (rI0 fun i j => .int (i + j)) ta (tC (.int c))) σ H R := fun H1 e Q k =>
  ha H1 e _ fun m H2 hm e2 => ⟨m, c, rfl, rfl, k _ H2 (hr m hm) e2⟩
theorem li_three {P : Int → Prop} (ha : WI ta σ H P) (hb : WI tb σ H P) (hc : WI te σ H P) : LI (tLst (tCons ta (tCons tb (tCons te tNil)))) σ H 3 P := fun H1 e Q k =>
  ha H1 e _ fun m1 H2 p1 e2 => hb H2 (e.trans e2) _ fun m2 H3 p2 e3 => hc H3 ((e.trans e2).trans e3) _ fun m3 H4 p3 e4 => ⟨(by show 3 ≤ sizeLine; decide), fun p np => by
    have e5 := (e2.trans e3).trans e4
    refine k p _ [m1, m2, m3] (Evl.fresh_back e5 np) (e5.trans (Ex.new np)) upd_same (Nat.le_refl _) fun z hz => ?_
    simp only [List.mem_cons, List.not_mem_nil, or_false] at hz
    rcases hz with rfl | rfl | rfl
    · exact p1
    · exact p2
    · exact p3⟩
/-- for x in such a list -/
theorem q_forLI {g : TG} {L : Nat} {P : Int → Prop} (h : LI tl σ H L P) (Pv : Addr → List Int → Nat → L2.St → Hp → Prop) (h0 : ∀ p ns H1, Ex H H1 → IL H1 p ns → (∀ z ∈ ns, P z) → Pv p ns 0 σ H1) (hl : ∀ p ns i σ' H', Pv p ns i σ' H' → IL H' p ns)
    (hs : ∀ p ns i z σ' H', P z → Pv p ns i σ' H' → g (.int z) σ' H' fun σ2 H2 => tu { D with nx := Pv p ns (i + 1), ct := Pv p ns (i + 1), bk := tz D } σ2 H2) (hd : ∀ p ns σ' H', Pv p ns ns.length σ' H' → tz D σ' H') : tSeq (tFor (iList K tl) g tu) tz D σ H :=
  h H (Ex.refl H) _ fun p H1 ns _ e hp _ hP => ⟨p, rfl, ⟨_, sq_of hp⟩, for_list (K := K) (a := p) (xs := ns.map V.int) (fun i σ' H' => Pv p ns i σ' H') (h0 p ns H1 e hp hP) (fun i σ' H' _ y => SqL.of (hl p ns i σ' H' y)) (fun i x σ' H' hi y => by
    rw [List.getElem?_map] at hi
    obtain ⟨z, hz, rfl⟩ := Option.map_eq_some_iff.mp hi
    exact hs p ns i z σ' H' (hP z (List.mem_of_getElem? hz)) y) fun σ' H' y => hd p ns σ' H' (by rw [List.length_map] at y; exact y)⟩
/-- a comprehension with a test, over a written tuple of whole numbers -/
theorem lcT_val {i : Nat} {vs : List Nat} {tq : TA} (f : Int → Bool) (hw : ∀ x, wipe ((wipe σ vs).set i (some x)) vs = wipe σ vs) (hi : ∀ x, ((wipe σ vs).set i (some x))[i]? = some (some x)) (hs : EvA tq σ H (ns.map V.int)) (hz : ns.length ≤ 50000)
    (ht : ∀ z ∈ ns, ∀ H1, Ex H H1 → EvT tt ((wipe σ vs).set i (some (.int z))) H1 (f z)) : EvL (tLc (iTup K (tTup tq)) (gName i) tt (tVar i) vs) σ H ((ns.filter f).map V.int) := fun H0 e0 Q k =>
  hs H0 e0 _ fun H1 e1 => ⟨sz_of (by rw [List.length_map]; omega), fun a na => by
    have ea := Ex.new (o := .tup (ns.map V.int)) na
    refine ⟨a, rfl, ⟨_, SqT.of upd_same⟩, fun Dl hD => ?_⟩
    have nad : a ≠ Dl := fun z => by rw [← z, upd_same] at hD; cases hD
    have hD1 : H1 Dl = none := by rw [upd_ne nad.symm] at hD; exact hD
    refine lc_tup (xs := ns.map V.int) (fun n H' => Ex H1 H' ∧ H' Dl = some (.lst (((ns.take n).filter f).map V.int)) ∧ H' a = some (.tup (ns.map V.int)))
      ⟨ea.trans (Ex.new hD), upd_same, by rw [upd_ne nad]; exact upd_same⟩ (fun n H' _ ⟨_, _, h⟩ => SqT.of h) ?_ ?_
    · rintro n x H' hn ⟨e2, hd, ha⟩
      rw [List.getElem?_map] at hn
      obtain ⟨z, hz2, rfl⟩ := Option.map_eq_some_iff.mp hn
      refine ⟨hw _, ?_⟩
      have hnl : n < ns.length := (List.getElem?_eq_some_iff.mp hz2).1
      have e02 := (e0.trans e1).trans e2
      rw [take_snoc hz2, List.filter_append, List.map_append]
      refine ht z (List.mem_of_getElem? hz2) H' e02 H' (Ex.refl _) _ fun H3 e3 => ?_
      cases hf : f z with
      | true =>
        rw [if_pos rfl]
        have e5 : [z].filter f = [z] := by simp [hf]
        rw [e5]
        refine ev_var (hi _) H3 (Ex.refl _) _ fun H4 e4 => ?_
        have hd4 := e4 _ _ (e3 _ _ hd)
        refine ⟨_, hd4, sz_lt (by
          rw [List.length_map]
          have := List.length_filter_le f (ns.take n)
          rw [List.length_take] at this
          omega), Ex.mut ((e2.trans e3).trans e4) hD1, upd_same, by rw [upd_ne nad]; exact e4 _ _ (e3 _ _ ha)⟩
      | false =>
        rw [if_neg Bool.false_ne_true]
        have e5 : [z].filter f = [] := by simp [hf]
        rw [e5, List.map_nil, List.append_nil]
        exact ⟨e2.trans e3, e3 _ _ hd, e3 _ _ ha⟩
    · rintro H' ⟨e2, hd, ha⟩
      rw [List.length_map, List.take_length] at hd
      exact k Dl H' (Evl.fresh_back e1 hD1) (e1.trans e2) hd⟩
/-- [v for k, v in d.items()] -/
theorem el_items {n i j : Nat} {vs : List Nat} (hw : ∀ x y, wipe (((wipe σ vs).set i (some x)).set j (some y)) vs = wipe σ vs) (hj : ∀ x y, (((wipe σ vs).set i (some x)).set j (some y))[j]? = some (some y)) (hv : σ[n]? = some (some (.ref a))) (h : DK H a ps) (hl : ps.length ≤ 50000) :
    EvL (tLockE (tLc (iItems (tVar n)) (gTup K 2 (gCons (gName i) (gCons (gName j) gNil))) tYes (tVar j) vs)) σ H (ps.map fun q => .int q.2) := fun H0 e0 Q k =>
  ⟨a, .dK (encD ps), h.mono e0, trivial, fun od => by
    unfold tLc iItems
    refine ev_var hv _ (Ex.refl _) _ fun H1 e1 => ⟨a, od, encD ps, rfl, e1 _ _ upd_same, fun Dl hD => ?_⟩
    have ha1 : H1 a = some (.frz od (.dK (encD ps))) := e1 _ _ upd_same
    have nad : a ≠ Dl := fun z => by rw [z, hD] at ha1; cases ha1
    have k1 : ∀ b o, b ≠ a → H0 b = some o → H1 b = some o := fun b o hb e => e1 _ _ (by rw [upd_ne hb]; exact e)
    have nD0 : H0 Dl = none := by
      cases e : H0 Dl with
      | none => rfl
      | some o => rw [k1 Dl o nad.symm e] at hD; cases hD
    refine ⟨fun i m H' => m = ps.length - i ∧ i ≤ ps.length ∧ H' a = some (.frz od (.dK (encD ps))) ∧ (∀ b o, b ≠ a → H0 b = some o → H' b = some o) ∧ H' Dl = some (.lst ((ps.take i).map fun q => .int q.2)), ⟨_, rfl, Nat.zero_le _, by rw [upd_ne nad]; exact ha1, fun b o hb e => ?_, upd_same⟩, ?_⟩
    · rw [upd_ne (fun z => by rw [z, nD0] at e; cases e)]
      exact k1 b o hb e
    · rintro i m H' ⟨rfl, hi, ha, hk, hd⟩
      by_cases hlt : i < ps.length
      · refine .inr ⟨⟨ha, by rw [encD_len]; exact hlt⟩, fun H2 => i < ps.length ∧ H2 a = some (.frz od (.dK (encD ps))) ∧ (∀ b o, b ≠ a → H0 b = some o → H2 b = some o) ∧ H2 Dl = some (.lst ((ps.take (i + 1)).map fun q => .int q.2)), fun H2 ⟨_, q1, q2, q3⟩ => ⟨ps.length - (i + 1), by omega, rfl, hlt, q1, q2, q3⟩, ?_⟩
        rintro x H2 ⟨T, kk, v, he, rfl, hT, rfl⟩
        have hq : ps[i]? = some ps[i] := List.getElem?_eq_getElem hlt
        have he2 : (encD ps)[i]? = some ((Sum.inl ps[i].1 : Key), V.int ps[i].2) := by unfold encD; rw [List.getElem?_map, hq]; rfl
        rw [he2] at he
        obtain ⟨rfl, rfl⟩ := Prod.mk.inj (Option.some.inj he)
        have nTa : a ≠ T := fun z => by rw [← z, ha] at hT; cases hT
        have nTD : Dl ≠ T := fun z => by rw [← z, hd] at hT; cases hT
        refine g_pair (p := ps[i]) ⟨T, rfl, upd_same⟩ ⟨hw _ _, ?_⟩
        refine et_yes _ (Ex.refl _) _ fun H3 e3 => ?_
        rw [if_pos rfl]
        refine ev_var (hj _ _) _ (Ex.refl _) _ fun H4 e4 => ?_
        have e24 := e3.trans e4
        have hd4 := e24 _ _ (by rw [upd_ne nTD]; exact hd)
        refine ⟨_, hd4, sz_lt (by rw [List.length_map, List.length_take]; omega), hlt, by rw [upd_ne nad]; exact e24 _ _ (by rw [upd_ne nTa]; exact ha), fun b o hb e => ?_, ?_⟩
        · have nb : b ≠ Dl := fun z => by rw [z, nD0] at e; cases e
          have nbT : b ≠ T := fun z => by have := hk b o hb e; rw [z, hT] at this; cases this
          rw [upd_ne nb]
          exact e24 _ _ (by rw [upd_ne nbT]; exact hk b o hb e)
        · rw [take_snoc hq, List.map_append]
          exact upd_same
      · have e : i = ps.length := by omega
        subst e
        rw [List.take_length] at hd
        refine .inl ⟨⟨ha, by rw [encD_len]; exact Nat.le_refl _⟩, ha, ?_⟩
        refine k Dl _ nD0 (fun b o e => ?_) (by rw [upd_ne nad.symm]; exact hd)
        by_cases hb : b = a
        · subst hb
          rw [upd_same, ← h.mono e0, e]
        · rw [upd_ne hb]
          exact hk b o hb e⟩
/-- for x in a written tuple, whatever is changed meanwhile -/
theorem s_forTm {jj : Nat} {tq : TA} (hs : EvA tq σ H xs) (hz : xs.length ≤ 50000) (Pv : Addr → Nat → L2.St → Hp → Prop) (h0 : ∀ t H1, H t = none → Ex H H1 → H1 t = some (.tup xs) → Pv t 0 σ H1) (hl : ∀ t i σ' H', Pv t i σ' H' → H' t = some (.tup xs))
    (hx : ∀ t i x σ' H', xs[i]? = some x → Pv t i σ' H' → tu { D with nx := Pv t (i + 1), ct := Pv t (i + 1), bk := D.nx } (σ'.set jj (some x)) H') (hd : ∀ t σ' H', Pv t xs.length σ' H' → D.nx σ' H') : tFor (iTup K (tTup tq)) (gName jj) tu D σ H :=
  hs H (Ex.refl _) _ fun H1 e1 => ⟨sz_of (by omega), fun t nt => ⟨t, rfl, ⟨xs, SqT.of upd_same⟩, for_tup (K := K) (a := t) (xs := xs) (Pv t) (h0 t _ (Evl.fresh_back e1 nt) (e1.trans (Ex.new nt)) upd_same) (fun i σ' H' _ y => SqT.of (hl t i σ' H' y)) (fun i x σ' H' hi y => hx t i x σ' H' hi y) fun σ' H' y => hd t σ' H' y⟩⟩
theorem q_forTm {jj : Nat} {tq : TA} (hs : EvA tq σ H xs) (hz : xs.length ≤ 50000) (Pv : Addr → Nat → L2.St → Hp → Prop) (h0 : ∀ t H1, H t = none → Ex H H1 → H1 t = some (.tup xs) → Pv t 0 σ H1) (hl : ∀ t i σ' H', Pv t i σ' H' → H' t = some (.tup xs))
    (hx : ∀ t i x σ' H', xs[i]? = some x → Pv t i σ' H' → tu { D with nx := Pv t (i + 1), ct := Pv t (i + 1), bk := tz D } (σ'.set jj (some x)) H') (hd : ∀ t σ' H', Pv t xs.length σ' H' → tz D σ' H') : tSeq (tFor (iTup K (tTup tq)) (gName jj) tu) tz D σ H :=
  s_forTm (D := { D with nx := tz D }) hs hz Pv h0 hl hx hd
end
end Sp

set_option Elab.async false
set_option linter.all false
set_option maxRecDepth 100000
set_option maxHeartbeats 1000000
namespace Sp
open PySem L2 Mth
open Evl (Ex)
def topS (i : Nat) : Stmt := PySem.Challenge.pw_spreadrow_k07_refused.main.body.getD i (.Pass ⟨0, 0, 0, 0⟩)
abbrev sHeapErrorC : Stmt := topS 2
abbrev sBadHeapsC : Stmt := topS 3
abbrev sBadPlaceC : Stmt := topS 4
abbrev sBadTextC : Stmt := topS 5
abbrev sBlockC : Stmt := topS 11
abbrev sSpreadC : Stmt := topS 21
abbrev sWall : Stmt := topS 0
abbrev sIsNumber : Stmt := topS 7
abbrev sIsHeap : Stmt := topS 8
abbrev sCheckHeaps : Stmt := topS 9
abbrev sCheckPlace : Stmt := topS 10
abbrev sBlockInit : Stmt := inClass sBlockC 0
abbrev sBegin : Stmt := inClass sBlockC 1
abbrev sEnd : Stmt := inClass sBlockC 2
abbrev sRestBlocks : Stmt := topS 12
abbrev sRestStretches : Stmt := topS 13
abbrev sGave : Stmt := topS 15
abbrev sAllGave : Stmt := topS 16
abbrev sWayTo : Stmt := topS 17
abbrev sSquares : Stmt := topS 18
abbrev sSquaresTo : Stmt := topS 19
abbrev sSpreadInit : Stmt := inClass sSpreadC 0
abbrev sShows : Stmt := inClass sSpreadC 1
abbrev sSpread : Stmt := topS 23
abbrev sLeft : Stmt := topS 24
abbrev sWritten : Stmt := topS 27
abbrev sFits : Stmt := topS 28
abbrev sLawCellAt : Stmt := topS 30
abbrev sLawDraw : Stmt := topS 31
abbrev sLawHeaps : Stmt := topS 32
abbrev sLawWhole : Stmt := topS 33
abbrev sLawOver : Stmt := topS 34
abbrev sLawStretches : Stmt := topS 35
abbrev sLawHas : Stmt := topS 36
abbrev sLawHad : Stmt := topS 37
abbrev sLawWithHeaps : Stmt := topS 38
abbrev sLawWithPlace : Stmt := topS 39
abbrev sLawTold : Stmt := topS 40
abbrev sLawAll : Stmt := topS 41
abbrev sLaw : Stmt := topS 42

end Sp

set_option Elab.async false
set_option linter.all false
set_option maxRecDepth 100000
set_option maxHeartbeats 1000000
namespace Sp
open PySem L2 Mth
open Evl (Ex)
/-! ### values of any kind -/
/-- a plain value -/
inductive PV (H : Hp) : V → Prop where
  | non : PV H .non
  | bl (b : Bool) : PV H (.bl b)
  | int (i : Int) : PV H (.int i)
  | str (s : Str) : PV H (.str s)
  | lst {a : Addr} {xs : List V} (h : H a = some (.lst xs)) : PV H (.ref a)
  | tup {a : Addr} {xs : List V} (h : H a = some (.tup xs)) : PV H (.ref a)
  | dk {a : Addr} {kvs : List (Key × V)} (h : H a = some (.dK kvs)) : PV H (.ref a)
theorem PV.mono {H H' : Hp} {v : V} (e : Ex H H') (h : PV H v) : PV H' v := by
  cases h with
  | non => exact .non
  | bl b => exact .bl b
  | int i => exact .int i
  | str s => exact .str s
  | lst h => exact .lst (e _ _ h)
  | tup h => exact .tup (e _ _ h)
  | dk h => exact .dk (e _ _ h)
def isN : V → Bool
  | .int _ => true
  | _ => false
def ge0 : V → Bool
  | .int c => decide (0 ≤ c)
  | _ => false
/-- is it a heap? -/
inductive HpV (H : Hp) : V → Bool → Prop where
  | non : HpV H .non false
  | bl (b : Bool) : HpV H (.bl b) false
  | int (i : Int) : HpV H (.int i) false
  | str (s : Str) : HpV H (.str s) false
  | lst {a : Addr} {xs : List V} (h : H a = some (.lst xs)) : HpV H (.ref a) false
  | dk {a : Addr} {kvs : List (Key × V)} (h : H a = some (.dK kvs)) : HpV H (.ref a) false
  | len {a : Addr} {xs : List V} (h : H a = some (.tup xs)) (hl : ¬ xs.length = 2) : HpV H (.ref a) false
  | two {a : Addr} {x y : V} (h : H a = some (.tup [x, y])) (hx : PV H x) (hy : PV H y) : HpV H (.ref a) (isN x && (isN y && ge0 y))
theorem HpV.mono {H H' : Hp} {v : V} {b : Bool} (e : Ex H H') (h : HpV H v b) : HpV H' v b := by
  cases h with
  | non => exact .non
  | bl b => exact .bl b
  | int i => exact .int i
  | str s => exact .str s
  | lst h => exact .lst (e _ _ h)
  | dk h => exact .dk (e _ _ h)
  | len h hl => exact .len (e _ _ h) hl
  | two h hx hy => exact .two (e _ _ h) (hx.mono e) (hy.mono e)
theorem Tp.hpv {H : Hp} {v : V} {q : P2} (h : Tp H v q) : HpV H v (decide (0 ≤ q.2)) := by
  obtain ⟨t, rfl, e⟩ := h
  have := HpV.two e (.int q.1) (.int q.2)
  exact this
/-- an own error over ValueError -/
structure XTxt (K : PySem.W.Frag) (mg : Str → Option Value) (nm : Str) (C : Addr) : Prop where
  g : mg nm = some (.ref C)
  x : PySem.W.excIn K C [.type "ValueError", .type "Exception", .type "BaseException", .type "object"] "ValueError.__new__" = true
  k : PySem.W.keepIn K (.ref C) = true
  b : PySem.W.subIn K (.ref C) (.type "BaseException") = some true
  t : PySem.W.typeIn K (.ref C) = some (.type "type")
section
variable {P : Program} {w : World} {K : PySem.W.Frag} {mg : Str → Option Value} {base : Heap}
/-! is_number -/
abbrev nIsNumber : List Str := ["value"]
theorem scIsNumber : FnScope ["value"] ["value"] (defScope sIsNumber) := ⟨rfl, rfl, rfl, by decide +kernel, rfl, by decide +kernel, by decide +kernel⟩
def spNum : Sp := fun vs H Q _ => ∃ v, vs = [v] ∧ PV H v ∧ ∀ H', Ex H H' → Q (.bl (isN v)) H'
theorem okNum {f : Addr} {fd : FuncData} (F : Fun K "is_number" "is_number" sIsNumber f fd) (m : Ms mg) : FnOk P w K mg base CX0 1 f fd ["value"] spNum := by
  refine F.ok scIsNumber (fun vs H Q E h => ?_) (fun cdv A outer s H vs Q E hr h => ?_)
  · obtain ⟨v, rfl, _⟩ := h
    rfl
  · obtain ⟨v, rfl, pv0, k⟩ := h
    refine ⟨_, (pss_one (ps_ret (pe_and (pe_callB call_isi (by rfl) m.isinstance_ (by decide +kernel) (pa_cons (pv 0) (pa_cons (pe_bltn (v := .ty "int") (by rfl) m.int_ (by decide +kernel) rfl) pa_nil))) (pe_one (pe_not (pe_callB call_isi (by rfl) m.isinstance_ (by decide +kernel) (pa_cons (pv 0) (pa_cons (pe_bltn (v := .ty "bool") (by rfl) m.bool_ (by decide +kernel) rfl) pa_nil)))))))), ?_⟩
    have k := k H (Evl.Ex.refl H)
    cases pv0 with
    | non => exact ⟨_, rfl, .non, .ty "int", _, _, false, rfl, .ty _, .base .non, kit_ty (by decide +kernel), false, rfl, k⟩
    | bl b => exact ⟨_, rfl, .bl b, .ty "int", _, _, true, rfl, .ty _, .base (.bl b), kit_ty (by decide +kernel), true, rfl, _, rfl, .bl b, .ty "bool", _, _, true, rfl, .ty _, .base (.bl b), kit_ty (by decide +kernel), true, rfl, k⟩
    | int i => exact ⟨_, rfl, .int i, .ty "int", _, _, true, rfl, .ty _, .base (.int i), kit_ty (by decide +kernel), true, rfl, _, rfl, .int i, .ty "bool", _, _, false, rfl, .ty _, .base (.int i), kit_ty (by decide +kernel), false, rfl, k⟩
    | str s => exact ⟨_, rfl, .str s, .ty "int", _, _, false, rfl, .ty _, .base (.str s), kit_ty (by decide +kernel), false, rfl, k⟩
    | lst h => exact ⟨_, rfl, _, .ty "int", _, _, false, rfl, .ty _, .base (.lst h), kit_ty (by decide +kernel), false, rfl, k⟩
    | tup h => exact ⟨_, rfl, _, .ty "int", _, _, false, rfl, .ty _, .base (.tup h), kit_ty (by decide +kernel), false, rfl, k⟩
    | dk h => exact ⟨_, rfl, _, .ty "int", _, _, false, rfl, .ty _, .base (.dK h), kit_ty (by decide +kernel), false, rfl, k⟩
open Evl in
theorem ev_num {σ : L2.St} {H : Hp} {ta : TA} {v : V} (h : EvA ta σ H [v]) (hv : PV H v) : Ev (tCall spNum [] E0 ta) σ H (.bl (isN v)) :=
  ev_call h fun H1 e _ q _ => ⟨v, rfl, hv.mono e, fun H2 e2 => q H2 e2⟩
open Evl in
theorem e_lenT {σ : L2.St} {H : Hp} {ta : TE} {a : Addr} {xs : List V} (ha : Ev ta σ H (.ref a)) (h : H a = some (.tup xs)) : Ev (tCB (fun xs H Q => ∃ p ys, xs = [.ref p] ∧ (SqL K H p ys ∨ SqT K H p ys) ∧ Q (.int ys.length) H) (tCons ta tNil)) σ H (.int (xs.length : Int)) := fun H1 e Q q =>
  ha H1 e _ fun H2 e2 => ⟨a, xs, rfl, .inr (SqT.of ((e.trans e2) _ _ h)), q H2 e2⟩
open Evl in
theorem e_ixT {σ : L2.St} {H : Hp} {ta tb : TE} {a : Addr} {xs : List V} {i : Int} {v : V} (ha : Ev ta σ H (.ref a)) (h : H a = some (.tup xs)) (hb : Ev tb σ H (.int i)) (hi : atI xs i = some v) : Ev (tOp (rIxT K) ta tb) σ H v := fun H1 e Q q =>
  ha H1 e _ fun H2 e2 => hb H2 (e.trans e2) _ fun H3 e3 => ⟨a, xs, i, v, rfl, rfl, SqT.of (((e.trans e2).trans e3) _ _ h), hi, q H3 (e2.trans e3)⟩
/-! is_heap -/
abbrev nIsHeap : List Str := ["value"]
theorem scIsHeap : FnScope ["value"] ["value"] (defScope sIsHeap) := ⟨rfl, rfl, rfl, by decide +kernel, rfl, by decide +kernel, by decide +kernel⟩
def spHeap : Sp := fun vs H Q _ => ∃ v b, vs = [v] ∧ HpV H v b ∧ ∀ H', Ex H H' → Q (.bl b) H'
open Evl in
theorem okHeap {f fN : Addr} {fd fdN : FuncData} (F : Fun K "is_heap" "is_heap" sIsHeap f fd) (cNum : Cl P w K mg base "is_number" 1 ["value"] spNum fN fdN) (m : Ms mg) : FnOk P w K mg base CX0 2 f fd ["value"] spHeap := by
  refine F.ok scIsHeap (fun vs H Q E h => ?_) (fun cdv A outer s H vs Q E hr h => ?_)
  · obtain ⟨v, b, rfl, _⟩ := h
    rfl
  · obtain ⟨v, b, rfl, hv, k⟩ := h
    refine ⟨_, (pss_cons (ps_if (PW.pt (pw_or (pt_not (pt_val (pe_callB call_isi (by rfl) m.isinstance_ (by decide +kernel) (pa_cons (pv 0) (pa_cons (pe_bltn (v := .ty "tuple") (by rfl) m.tuple_ (by decide +kernel) rfl) pa_nil))))) (pw_or1 (pt_cmpR op_ne (pe_callB call_len_seq (by rfl) m.len_ PySem.boot_len (pa_cons (pv 0) pa_nil)) pe_int (nomark _)))))
      (pss_one (ps_ret pe_bl))
      pss_nil)
    (pss_one (ps_ret (pe_and (pe_call cNum.F (hr.mono (by decide)) (by rfl) cNum.g cNum.kp cNum.b .nil pass0 (pa_cons (pe_ix (r := rIxT K) ix_tup (pv 0) pe_int (fun _ _ => rfl)) pa_nil)) (pe_and (pe_call cNum.F (hr.mono (by decide)) (by rfl) cNum.g cNum.kp cNum.b .nil pass0 (pa_cons (pe_ix (r := rIxT K) ix_tup (pv 0) pe_int (fun _ _ => rfl)) pa_nil)) (pe_one (pe_cmpR op_ge (pe_ix (r := rIxT K) ix_tup (pv 0) pe_int (fun _ _ => rfl)) pe_int (nomark _)))))))), ?_⟩
    have hv' : (∃ n : String, (∀ H1, Ex H H1 → TyOf K H1 v (.type n)) ∧ PySem.W.kitOne K (.type n) (.type "tuple") = some false ∧ b = false) ∨ (∃ a xs, v = .ref a ∧ H a = some (.tup xs) ∧ ¬ xs.length = 2 ∧ b = false) ∨ ∃ a x y, v = .ref a ∧ H a = some (.tup [x, y]) ∧ PV H x ∧ PV H y ∧ b = (isN x && (isN y && ge0 y)) := by
      cases hv with
      | non => exact .inl ⟨"NoneType", fun _ _ => .non, kit_ty (by decide +kernel), rfl⟩
      | bl b => exact .inl ⟨"bool", fun _ _ => .bl b, kit_ty (by decide +kernel), rfl⟩
      | int i => exact .inl ⟨"int", fun _ _ => .int i, kit_ty (by decide +kernel), rfl⟩
      | str s => exact .inl ⟨"str", fun _ _ => .str s, kit_ty (by decide +kernel), rfl⟩
      | lst h => exact .inl ⟨"list", fun _ e => .lst (e _ _ h), kit_ty (by decide +kernel), rfl⟩
      | dk h => exact .inl ⟨"dict", fun _ e => .dK (e _ _ h), kit_ty (by decide +kernel), rfl⟩
      | len h hl => exact .inr (.inl ⟨_, _, rfl, h, hl, rfl⟩)
      | two h hx hy => exact .inr (.inr ⟨_, _, _, rfl, h, hx, hy, rfl⟩)
    clear hv
    rcases hv' with ⟨n, ht, hk, rfl⟩ | ⟨a, xs, rfl, h, hl, rfl⟩ | ⟨a, x, y, rfl, h, hx, hy, rfl⟩
    · exact q_when (b := true) (et_or (a := true) (b := false) (et_is (et_not (et_B (e_isi (b := false) (ev_var rfl) ev_c (.ty _) (fun H1 e => .base (ht H1 e)) hk))) rfl) (fun z => nomatch z)) (fun _ H1 e1 => s_ret ev_c fun H2 e2 => k H2 (e1.trans e2)) (fun z => nomatch z)
    · refine q_when (b := true) (et_or (a := false) (b := true) (et_is (et_not (et_B (e_isi (b := true) (ev_var rfl) ev_c (.ty _) (fun H1 e => .base (.tup (e _ _ h))) (kit_ty (by decide +kernel))))) rfl) fun _ => et_is (e_nei (e_lenT (ev_var rfl) h) ev_c) (by rw [decide_eq_false (by omega)]; rfl)) (fun _ H1 e1 => s_ret ev_c fun H2 e2 => k H2 (e1.trans e2)) (fun z => nomatch z)
    · refine q_when (b := false) (et_or (a := false) (b := false) (et_is (et_not (et_B (e_isi (b := true) (ev_var rfl) ev_c (.ty _) (fun H1 e => .base (.tup (e _ _ h))) (kit_ty (by decide +kernel))))) rfl) fun _ => et_is (e_nei (e_lenT (ev_var rfl) h) ev_c) (by rfl)) (fun z => nomatch z) fun _ H1 e1 => ?_
      refine s_ret (ev_andV (a := isN x) (b := isN y && ge0 y) (ev_num (ea_cons (e_ixT (ev_var rfl) (e1 _ _ h) ev_c (atI_nat (j := 0) rfl)) ea_nil) (hx.mono e1)) fun _ => ev_andV (a := isN y) (b := ge0 y) (ev_num (ea_cons (e_ixT (ev_var rfl) (e1 _ _ h) ev_c (atI_nat (j := 1) rfl)) ea_nil) (hy.mono e1)) fun hn => ?_) fun H2 e2 => k H2 (e1.trans e2)
      cases hy with
      | int c => exact e_geV (e_ixT (ev_var rfl) (e1 _ _ h) ev_c (atI_nat (j := 1) rfl)) ev_c
      | non => exact nomatch hn
      | bl b => exact nomatch hn
      | str s => exact nomatch hn
      | lst h => exact nomatch hn
      | tup h => exact nomatch hn
      | dk h => exact nomatch hn
open Evl in
theorem ev_heap {σ : L2.St} {H : Hp} {ta : TA} {v : V} {b : Bool} (h : EvA ta σ H [v]) (hv : HpV H v b) : Ev (tCall spHeap [] E0 ta) σ H (.bl b) :=
  ev_call h fun H1 e _ q _ => ⟨v, b, rfl, hv.mono e, fun H2 e2 => q H2 e2⟩
end

end Sp

set_option Elab.async false
set_option linter.all false
set_option maxRecDepth 100000
set_option maxHeartbeats 1000000
namespace Sp
open PySem L2 Mth
open Evl (Ex)
/-- no list -/
inductive NoL (H : Hp) : V → Prop where
  | non : NoL H .non
  | bl (b : Bool) : NoL H (.bl b)
  | int (i : Int) : NoL H (.int i)
  | str (s : Str) : NoL H (.str s)
  | tup {a : Addr} {xs : List V} (h : H a = some (.tup xs)) : NoL H (.ref a)
  | dk {a : Addr} {kvs : List (Key × V)} (h : H a = some (.dK kvs)) : NoL H (.ref a)
theorem NoL.mono {H H' : Hp} {v : V} (e : Ex H H') (h : NoL H v) : NoL H' v := by
  cases h with
  | non => exact .non
  | bl b => exact .bl b
  | int i => exact .int i
  | str s => exact .str s
  | tup h => exact .tup (e _ _ h)
  | dk h => exact .dk (e _ _ h)
theorem NoL.ty {K : PySem.W.Frag} {H : Hp} {v : V} (h : NoL H v) : ∃ n : String, (∀ H1, Ex H H1 → TyOf K H1 v (.type n)) ∧ PySem.W.kitOne K (.type n) (.type "list") = some false := by
  cases h with
  | non => exact ⟨"NoneType", fun _ _ => .non, kit_ty (by decide +kernel)⟩
  | bl b => exact ⟨"bool", fun _ _ => .bl b, kit_ty (by decide +kernel)⟩
  | int i => exact ⟨"int", fun _ _ => .int i, kit_ty (by decide +kernel)⟩
  | str s => exact ⟨"str", fun _ _ => .str s, kit_ty (by decide +kernel)⟩
  | tup h => exact ⟨"tuple", fun _ e => .tup (e _ _ h), kit_ty (by decide +kernel)⟩
  | dk h => exact ⟨"dict", fun _ e => .dK (e _ _ h), kit_ty (by decide +kernel)⟩
/-- a def that may raise -/
structure Clx (P : Program) (w : World) (K : PySem.W.Frag) (mg : Str → Option Value) (base : Heap) (nm : Str) (k : Nat) (ps : List Str) (sp : Sp) (f : Addr) (fd : FuncData) : Prop where
  F : FnOk P w K mg base (L2.CX P w) k f fd ps sp
  g : mg nm = some (.ref f)
  kp : PySem.W.keepIn K (.ref f) = true
  b : Binds K fd ps []
section
open Evl
variable {K : PySem.W.Frag} {σ : L2.St} {H : Hp} {tl : TE} {tu : TS} {g : TG} {D : Ends} {a : Addr} {xs : List V}
theorem s_forL (hl : Ev tl σ H (.ref a)) (h : H a = some (.lst xs)) (Pv : Nat → L2.St → Hp → Prop) (h0 : ∀ H1, Ex H H1 → Pv 0 σ H1) (hk : ∀ i σ' H', Pv i σ' H' → H' a = some (.lst xs))
    (hs : ∀ i x σ' H', xs[i]? = some x → Pv i σ' H' → g x σ' H' fun σ2 H2 => tu { D with nx := Pv (i + 1), ct := Pv (i + 1), bk := D.nx } σ2 H2) (hd : ∀ σ' H', Pv xs.length σ' H' → D.nx σ' H') : tFor (iList K tl) g tu D σ H :=
  hl H (Ex.refl H) _ fun H1 e => ⟨a, rfl, ⟨xs, SqL.of (e _ _ h)⟩, for_list (K := K) (a := a) (xs := xs) Pv (h0 H1 e) (fun i σ' H' _ y => SqL.of (hk i σ' H' y)) hs hd⟩
end
section
variable {P : Program} {w : World} {K : PySem.W.Frag} {mg : Str → Option Value} {base : Heap}
/-! check_heaps -/
abbrev nCheckHeaps : List Str := ["heaps", "heap"]
theorem scCheckHeaps : FnScope ["heaps", "heap"] ["heaps"] (defScope sCheckHeaps) := ⟨rfl, rfl, rfl, by decide +kernel, rfl, by decide +kernel, by decide +kernel⟩
def spCheckX (CB : Addr) : Sp := fun vs H Q E => ∃ v, vs = [v] ∧ ((NoL H v ∧ ∀ H', Ex H H' → E (.ref CB) none H') ∨ ∃ a xs bs, v = .ref a ∧ H a = some (.lst xs) ∧ Paired (HpV H) xs bs ∧ (bs.all id = true → ∀ H', Ex H H' → Q .non H') ∧ (bs.all id = false → ∀ H', Ex H H' → E (.ref CB) none H'))
open Evl in
theorem okCheckX {f fN CB : Addr} {fd fdN : FuncData} (F : Fun K "check_heaps" "check_heaps" sCheckHeaps f fd) (cHeap : Cl P w K mg base "is_heap" 2 ["value"] spHeap fN fdN) (m : Ms mg) (xH : XTxt K mg "BadHeaps" CB) : FnOk P w K mg base (L2.CX P w) 3 f fd ["heaps"] (spCheckX CB) := by
  refine F.okX scCheckHeaps (fun vs H Q E h => ?_) (fun cdv A outer s H vs Q E hr h => ?_)
  · obtain ⟨v, rfl, _⟩ := h
    rfl
  · obtain ⟨v, rfl, h⟩ := h
    have nd := scCheckHeaps.nd
    refine ⟨_, (pss_cons (ps_if (pt_not (pt_val (pe_callB call_isi (by rfl) m.isinstance_ (by decide +kernel) (pa_cons (pv 0) (pa_cons (pe_bltn (v := .ty "list") (by rfl) m.list_ (by decide +kernel) rfl) pa_nil)))))
      (pss_one (ps_raise rfl (takes_of rfl rfl rfl rfl) (pmk_own PySem.F.excBase_ValueError xH.x xH.g xH.k (raises_own xH.b xH.t) rfl)))
      pss_nil)
    (pss_one (ps_for PassesOwn.leaving rfl (pi_list (pv 0)) (pg_name (i := 1) nd rfl (by first | exact Or.inl rfl | exact Or.inr rfl))
      (pss_one (ps_if (pt_not (pt_val (pe_call cHeap.F (hr.mono (by decide)) (by rfl) cHeap.g cHeap.kp cHeap.b .nil pass0 (pa_cons (pv 1) pa_nil))))
        (pss_one (ps_raise rfl (takes_of rfl rfl rfl rfl) (pmk_own PySem.F.excBase_ValueError xH.x xH.g xH.k (raises_own xH.b xH.t) rfl)))
        pss_nil))))), ?_⟩
    rcases h with ⟨no, kE⟩ | ⟨a, xs, bs, rfl, ha, hp, kQ, kE⟩
    · obtain ⟨n, ht, hk⟩ := no.ty (K := K)
      exact q_when (b := true) (et_is (et_not (et_B (e_isi (b := false) (ev_var rfl) ev_c (.ty _) (fun H1 e => .base (ht H1 e)) hk))) rfl) (fun _ H1 e1 => kE H1 e1) (fun z => nomatch z)
    · refine q_when (b := false) (et_is (et_not (et_B (e_isi (b := true) (ev_var rfl) ev_c (.ty _) (fun H1 e => .base (.lst (e _ _ ha))) (kit_ty (by decide +kernel))))) rfl) (fun z => nomatch z) fun _ H1 e1 => ?_
      refine s_forL (ev_var rfl) (e1 _ _ ha) (fun i σ H' => ∃ o, σ = [some (.ref a), o] ∧ Ex H H' ∧ (bs.take i).all id = true) (fun H2 e2 => ⟨_, rfl, e1.trans e2, rfl⟩) (fun i σ' H' ⟨_, _, e, _⟩ => e _ _ ha) (fun i x σ' H2 hi hP => ?_) fun σ' H2 hP => ?_
      · obtain ⟨o, rfl, e2, hb⟩ := hP
        obtain ⟨b, hbi, hv⟩ := pr_get hp hi
        unfold gName
        refine s_when (b := !b) (et_not (et_B (ev_heap (ea_cons (ev_var rfl) ea_nil) (hv.mono e2)))) (fun c H3 e3 => ?_) fun c H3 e3 => ⟨_, rfl, e2.trans e3, ?_⟩
        · have c : b = false := by simpa using c
          subst c
          refine kE ?_ H3 (e2.trans e3)
          rw [Bool.eq_false_iff]
          intro z
          exact nomatch List.all_eq_true.mp z false (List.mem_of_getElem? hbi)
        · have c : b = true := by simpa using c
          subst c
          rw [take_snoc hbi, List.all_append, hb]
          rfl
      · obtain ⟨o, rfl, e2, hb⟩ := hP
        rw [pr_len hp, List.take_length] at hb
        exact kQ hb H2 e2
/-! check_place -/
abbrev nCheckPlace : List Str := ["place"]
theorem scCheckPlace : FnScope ["place"] ["place"] (defScope sCheckPlace) := ⟨rfl, rfl, rfl, by decide +kernel, rfl, by decide +kernel, by decide +kernel⟩
def spPlaceX (CP : Addr) : Sp := fun vs H Q E => ∃ v, vs = [v] ∧ PV H v ∧ (isN v = true → ∀ H', Ex H H' → Q .non H') ∧ (isN v = false → ∀ H', Ex H H' → E (.ref CP) none H')
open Evl in
theorem okPlaceX {f fN CP : Addr} {fd fdN : FuncData} (F : Fun K "check_place" "check_place" sCheckPlace f fd) (cNum : Cl P w K mg base "is_number" 1 ["value"] spNum fN fdN) (m : Ms mg) (xP : XTxt K mg "BadPlace" CP) : FnOk P w K mg base (L2.CX P w) 2 f fd ["place"] (spPlaceX CP) := by
  refine F.okX scCheckPlace (fun vs H Q E h => ?_) (fun cdv A outer s H vs Q E hr h => ?_)
  · obtain ⟨v, rfl, _⟩ := h
    rfl
  · obtain ⟨v, rfl, hv, kQ, kE⟩ := h
    refine ⟨_, (pss_one (ps_if (pt_not (pt_val (pe_call cNum.F (hr.mono (by decide)) (by rfl) cNum.g cNum.kp cNum.b .nil pass0 (pa_cons (pv 0) pa_nil))))
      (pss_one (ps_raise rfl (takes_of rfl rfl rfl rfl) (pmk_own PySem.F.excBase_ValueError xP.x xP.g xP.k (raises_own xP.b xP.t) rfl)))
      pss_nil)), ?_⟩
    refine s_when (b := !isN v) (et_not (et_B (ev_num (ea_cons (ev_var rfl) ea_nil) hv))) (fun c H1 e1 => kE (by simpa using c) H1 e1) fun c H1 e1 => kQ (by simpa using c) H1 e1
end

end Sp

set_option Elab.async false
set_option linter.all false
set_option maxRecDepth 100000
set_option maxHeartbeats 1000000
namespace Sp
open PySem L2 Mth
open Evl (Ex)
section
variable {P : Program} {w : World} {K : PySem.W.Frag} {mg : Str → Option Value} {base : Heap}
/-- no heaps -/
def BadH (H : Hp) (v : V) : Prop := NoL H v ∨ ∃ a xs bs, v = .ref a ∧ H a = some (.lst xs) ∧ Paired (HpV H) xs bs ∧ bs.all id = false
theorem BadH.mono {H H' : Hp} {v : V} (e : Ex H H') (h : BadH H v) : BadH H' v := by
  rcases h with h | ⟨a, xs, bs, rfl, h1, h2, h3⟩
  · exact .inl (h.mono e)
  · exact .inr ⟨a, xs, bs, rfl, e _ _ h1, Paired.mapP h2 fun _ _ => HpV.mono e, h3⟩
theorem pl_hpv {H : Hp} {vs : List V} {ps : List P2} (h : Tps H vs ps) : Paired (HpV H) vs (ps.map fun q => decide (0 ≤ q.2)) := by
  induction h with
  | nil => exact .nil
  | cons r t ih => exact .cons (Tp.hpv r) ih
theorem ok_all {ps : List P2} (h : Ok ps) : (ps.map fun q => decide (0 ≤ q.2)).all id = true := by
  rw [List.all_map]
  refine List.all_eq_true.mpr fun q hq => ?_
  exact decide_eq_true (h q hq)
/-! the doors, refusing -/
def spDoor1 (CB : Addr) : Sp := fun vs H Q E => ∃ v, vs = [v] ∧ BadH H v ∧ ∀ H', Ex H H' → E (.ref CB) none H'
def spDoor2 (CB CP : Addr) : Sp := fun vs H Q E => ∃ v p, vs = [v, p] ∧ ((BadH H v ∧ ∀ H', Ex H H' → E (.ref CB) none H') ∨ (∃ a ps, v = .ref a ∧ PL H a ps ∧ Ok ps ∧ PV H p ∧ isN p = false ∧ ∀ H', Ex H H' → E (.ref CP) none H'))
theorem check_bad {CB : Addr} {H : Hp} {v : V} {Q : VK} {E : XK} (h : BadH H v) (k : ∀ H', Ex H H' → E (.ref CB) none H') : spCheckX CB [v] H Q E := by
  refine ⟨v, rfl, ?_⟩
  rcases h with h | ⟨a, xs, bs, rfl, h1, h2, h3⟩
  · exact .inl ⟨h, k⟩
  · exact .inr ⟨a, xs, bs, rfl, h1, h2, (fun z => by rw [h3] at z; cases z), fun _ => k⟩
theorem check_good {CB a : Addr} {H : Hp} {ps : List P2} {Q : VK} {E : XK} (h : PL H a ps) (o : Ok ps) (k : ∀ H', Ex H H' → Q .non H') : spCheckX CB [.ref a] H Q E := by
  obtain ⟨vs, h1, h2⟩ := h
  exact ⟨_, rfl, .inr ⟨a, vs, _, rfl, h1, pl_hpv h2, fun _ => k, fun z => by rw [ok_all o] at z; cases z⟩⟩
section
open Evl
variable {σ : L2.St} {H : Hp} {ta : TA} {W : WX} {D : Ends} {tz tq : TS} {v p : V} {a CB CP : Addr} {ps : List P2}
theorem q_chk (ha : EvA ta σ H [v]) (h : BadH H v) (k : ∀ H', Ex H H' → W (.ref CB) none σ H') : tSeq (tDrop (tCallS (spCheckX CB) (WE W) ta)) tz D σ H :=
  ha H (Ex.refl H) _ fun H1 e1 => check_bad (E := WE W σ) (h.mono e1) fun H' e => k H' (e1.trans e)
theorem q_chkG (ha : EvA ta σ H [.ref a]) (h : PL H a ps) (o : Ok ps) (k : ∀ H', Ex H H' → tz D σ H') : tSeq (tDrop (tCallS (spCheckX CB) (WE W) ta)) tz D σ H :=
  ha H (Ex.refl H) _ fun H1 e1 => check_good (E := WE W σ) (h.mono e1) o fun H' e => k H' (e1.trans e)
theorem q_plc (ha : EvA ta σ H [p]) (h : PV H p) (hn : isN p = false) (k : ∀ H', Ex H H' → W (.ref CP) none σ H') : tSeq (tDrop (tCallS (spPlaceX CP) (WE W) ta)) tz D σ H :=
  ha H (Ex.refl H) _ fun H1 e1 => ⟨p, rfl, h.mono e1, (fun z => by rw [hn] at z; cases z), fun _ H' e => k H' (e1.trans e)⟩
theorem door2 {E : XK} (hE : ∀ c d H', E c d H' → W c d σ H') (h0 : σ[0]? = some (some v)) (h1 : σ[1]? = some (some p)) (h : (BadH H v ∧ ∀ H', Ex H H' → E (.ref CB) none H') ∨ (∃ a ps, v = .ref a ∧ PL H a ps ∧ Ok ps ∧ PV H p ∧ isN p = false ∧ ∀ H', Ex H H' → E (.ref CP) none H')) :
    tSeq (tDrop (tCallS (spCheckX CB) (WE W) (tCons (tVar 0) tNil))) (tSeq (tDrop (tCallS (spPlaceX CP) (WE W) (tCons (tVar 1) tNil))) tq) D σ H := by
  rcases h with ⟨hb, k⟩ | ⟨a, ps, rfl, hl, ho, hp, hn, k⟩
  · exact q_chk (ea_cons (ev_var h0) ea_nil) hb fun H' e => hE _ _ _ (k H' e)
  · exact q_chkG (ea_cons (ev_var h0) ea_nil) hl ho fun H1 e1 => q_plc (ea_cons (ev_var h1) ea_nil) (hp.mono e1) hn fun H' e => hE _ _ _ (k H' (e1.trans e))
end
abbrev nSpread : List Str := ["heaps"]
theorem scSpread : FnScope ["heaps"] ["heaps"] (defScope sSpread) := ⟨rfl, rfl, rfl, by decide +kernel, rfl, by decide +kernel, by decide +kernel⟩
theorem okSpreadX {f fC CB : Addr} {fd fdC : FuncData} (F : Fun K "spread" "spread" sSpread f fd) (cCheck : Clx P w K mg base "check_heaps" 3 ["heaps"] (spCheckX CB) fC fdC) : FnOk P w K mg base (L2.CX P w) 4 f fd ["heaps"] (spDoor1 CB) := by
  refine F.okX scSpread (fun vs H Q E h => ?_) (fun cdv A outer s H vs Q E hr h => ?_)
  · obtain ⟨v, rfl, _⟩ := h
    rfl
  · obtain ⟨v, rfl, hb, k⟩ := h
    refine ⟨_, (pss_cons (ps_expr (pe_callS cCheck.F (hr.mono (by decide)) (by rfl) cCheck.g cCheck.kp cCheck.b (fun σ => passAt (takes_of rfl rfl rfl rfl) σ) (pa_cons (pv 0) pa_nil)))
    (pss_one ps_never)), ?_⟩
    exact q_chk (Evl.ea_cons (Evl.ev_var rfl) Evl.ea_nil) hb k
abbrev nAllGave : List Str := ["heaps", "now", "first", "last", "before", "at", "count"]
theorem scAllGave : FnScope ["heaps", "now", "first", "last", "before", "at", "count"] ["heaps"] (defScope sAllGave) := ⟨rfl, rfl, rfl, by decide +kernel, rfl, by decide +kernel, by decide +kernel⟩
theorem okAllX {f fC CB : Addr} {fd fdC : FuncData} (F : Fun K "all_gave" "all_gave" sAllGave f fd) (cCheck : Clx P w K mg base "check_heaps" 3 ["heaps"] (spCheckX CB) fC fdC) : FnOk P w K mg base (L2.CX P w) 4 f fd ["heaps"] (spDoor1 CB) := by
  refine F.okX scAllGave (fun vs H Q E h => ?_) (fun cdv A outer s H vs Q E hr h => ?_)
  · obtain ⟨v, rfl, _⟩ := h
    rfl
  · obtain ⟨v, rfl, hb, k⟩ := h
    refine ⟨_, (pss_cons (ps_expr (pe_callS cCheck.F (hr.mono (by decide)) (by rfl) cCheck.g cCheck.kp cCheck.b (fun σ => passAt (takes_of rfl rfl rfl rfl) σ) (pa_cons (pv 0) pa_nil)))
    (pss_cons ps_never
    (pss_cons ps_never
    (pss_one ps_never)))), ?_⟩
    exact q_chk (Evl.ea_cons (Evl.ev_var rfl) Evl.ea_nil) hb k
abbrev nLeft : List Str := ["heaps", "place", "first", "last"]
theorem scLeft : FnScope ["heaps", "place", "first", "last"] ["heaps", "place"] (defScope sLeft) := ⟨rfl, rfl, rfl, by decide +kernel, rfl, by decide +kernel, by decide +kernel⟩
theorem okLeftX {f fC fP CB CP : Addr} {fd fdC fdP : FuncData} (F : Fun K "left" "left" sLeft f fd) (cCheck : Clx P w K mg base "check_heaps" 3 ["heaps"] (spCheckX CB) fC fdC) (cPlace : Clx P w K mg base "check_place" 2 ["place"] (spPlaceX CP) fP fdP) : FnOk P w K mg base (L2.CX P w) 4 f fd ["heaps", "place"] (spDoor2 CB CP) := by
  refine F.okX scLeft (fun vs H Q E h => ?_) (fun cdv A outer s H vs Q E hr h => ?_)
  · obtain ⟨v, p, rfl, _⟩ := h
    rfl
  · obtain ⟨v, p, rfl, h⟩ := h
    refine ⟨_, (pss_cons (ps_expr (pe_callS cCheck.F (hr.mono (by decide)) (by rfl) cCheck.g cCheck.kp cCheck.b (fun σ => passAt (takes_of rfl rfl rfl rfl) σ) (pa_cons (pv 0) pa_nil)))
    (pss_cons (ps_expr (pe_callS cPlace.F (hr.mono (by decide)) (by rfl) cPlace.g cPlace.kp cPlace.b (fun σ => passAt (takes_of rfl rfl rfl rfl) σ) (pa_cons (pv 1) pa_nil)))
    (pss_cons ps_never
    (pss_one ps_never)))), ?_⟩
    exact door2 (tq := tSeq _ _) (E := E) (fun _ _ _ h => h) rfl rfl h
abbrev nGave : List Str := ["heaps", "place", "now", "first", "last", "before", "at", "count"]
theorem scGave : FnScope ["heaps", "place", "now", "first", "last", "before", "at", "count"] ["heaps", "place"] (defScope sGave) := ⟨rfl, rfl, rfl, by decide +kernel, rfl, by decide +kernel, by decide +kernel⟩
theorem okGaveX {f fC fP CB CP : Addr} {fd fdC fdP : FuncData} (F : Fun K "gave" "gave" sGave f fd) (cCheck : Clx P w K mg base "check_heaps" 3 ["heaps"] (spCheckX CB) fC fdC) (cPlace : Clx P w K mg base "check_place" 2 ["place"] (spPlaceX CP) fP fdP) : FnOk P w K mg base (L2.CX P w) 4 f fd ["heaps", "place"] (spDoor2 CB CP) := by
  refine F.okX scGave (fun vs H Q E h => ?_) (fun cdv A outer s H vs Q E hr h => ?_)
  · obtain ⟨v, p, rfl, _⟩ := h
    rfl
  · obtain ⟨v, p, rfl, h⟩ := h
    refine ⟨_, (pss_cons (ps_expr (pe_callS cCheck.F (hr.mono (by decide)) (by rfl) cCheck.g cCheck.kp cCheck.b (fun σ => passAt (takes_of rfl rfl rfl rfl) σ) (pa_cons (pv 0) pa_nil)))
    (pss_cons (ps_expr (pe_callS cPlace.F (hr.mono (by decide)) (by rfl) cPlace.g cPlace.kp cPlace.b (fun σ => passAt (takes_of rfl rfl rfl rfl) σ) (pa_cons (pv 1) pa_nil)))
    (pss_cons ps_never
    (pss_cons ps_never
    (pss_one ps_never))))), ?_⟩
    exact door2 (tq := tSeq _ _) (E := E) (fun _ _ _ h => h) rfl rfl h
/-! what is too great to be written -/
section
open Evl
variable {σ : L2.St} {H : Hp} {ta tb : TE}
theorem e_abs {i : Int} (ha : Ev ta σ H (.int i)) : Ev (tCB (fun xs H Q => ∃ i, xs = [.int i] ∧ Q (.int (if i < 0 then -i else i)) H) (tCons ta tNil)) σ H (.int (if i < 0 then -i else i)) := fun H1 e Q q =>
  ha H1 e _ fun H2 e2 => ⟨i, rfl, q H2 e2⟩
theorem e_ltV {i j : Int} (ha : Ev ta σ H (.int i)) (hb : Ev tb σ H (.int j)) : Ev (tOp (rI0 fun i j => .bl (decide (i < j))) ta tb) σ H (.bl (decide (i < j))) := ev_op ha hb (rv_I0 (g := fun i j => .bl (decide (i < j))))
end
abbrev nFits : List Str := ["number"]
theorem scFits : FnScope ["number"] ["number"] (defScope sFits) := ⟨rfl, rfl, rfl, by decide +kernel, rfl, by decide +kernel, by decide +kernel⟩
def spFits : Sp := fun vs H Q _ => ∃ i : Int, vs = [.int i] ∧ ∀ H', Ex H H' → Q (.bl (decide (i.natAbs < 10 ^ 60))) H'
theorem okFits {f : Addr} {fd : FuncData} (F : Fun K "fits" "fits" sFits f fd) (m : Ms mg) : FnOk P w K mg base CX0 1 f fd ["number"] spFits := by
  refine F.ok scFits (fun vs H Q E h => ?_) (fun cdv A outer s H vs Q E hr h => ?_)
  · obtain ⟨i, rfl, _⟩ := h
    rfl
  · obtain ⟨i, rfl, k⟩ := h
    have nd := scFits.nd
    refine ⟨_, (pss_one (ps_ret (pe_cmpR op_lt (pe_callB call_abs (by rfl) m.abs_ (by decide +kernel) (pa_cons (pv 0) pa_nil)) (pe_op op_pow pe_int pe_int) (nomark _)))), ?_⟩
    refine Evl.s_ret (ev_is2 (e_ltV (e_abs (Evl.ev_var rfl)) (e_pow Evl.ev_c Evl.ev_c ⟨by decide, by decide, by decide⟩)) ?_) fun H1 e1 => k H1 e1
    have e : ((10 : Nat) ^ 60 : Nat) = 1000000000000000000000000000000000000000000000000000000000000 := by decide
    have e2 : (10 : Int) ^ (60 : Int).toNat = 1000000000000000000000000000000000000000000000000000000000000 := by decide
    rw [e, e2]
    refine congrArg V.bl (decide_eq_decide.mpr ?_)
    split <;> omega
open Evl in
theorem ev_fits {σ : L2.St} {H : Hp} {ta : TA} {i : Int} (h : EvA ta σ H [.int i]) : Ev (tCall spFits [] E0 ta) σ H (.bl (decide (i.natAbs < 10 ^ 60))) :=
  ev_call h fun H1 e _ q _ => ⟨i, rfl, fun H2 e2 => q H2 e2⟩
def fitB (q : P2) : Bool := decide (q.1.natAbs < 10 ^ 60) && decide (q.2.natAbs < 10 ^ 60)
/-- heaps, but one too great -/
def GreatH (H : Hp) (v : V) : Prop := ∃ a ps, v = .ref a ∧ PL H a ps ∧ Ok ps ∧ ps.all fitB = false
theorem GreatH.mono {H H' : Hp} {v : V} (e : Ex H H') (h : GreatH H v) : GreatH H' v := by
  obtain ⟨a, ps, rfl, h1, h2, h3⟩ := h
  exact ⟨a, ps, rfl, h1.mono e, h2, h3⟩
abbrev nWritten : List Str := ["heaps", "place", "count"]
theorem scWritten : FnScope ["heaps", "place", "count"] ["heaps"] (defScope sWritten) := ⟨rfl, rfl, rfl, by decide +kernel, rfl, by decide +kernel, by decide +kernel⟩
def spWrittenX (CB : Addr) : Sp := fun vs H Q E => ∃ v, vs = [v] ∧ (BadH H v ∨ GreatH H v) ∧ ∀ H', Ex H H' → E (.ref CB) none H'
open Evl in
theorem okWrittenX {f fC fF CB : Addr} {fd fdC fdF : FuncData} (F : Fun K "written" "written" sWritten f fd) (cCheck : Clx P w K mg base "check_heaps" 3 ["heaps"] (spCheckX CB) fC fdC) (cFits : Cl P w K mg base "fits" 1 ["number"] spFits fF fdF) (xH : XTxt K mg "BadHeaps" CB) : FnOk P w K mg base (L2.CX P w) 4 f fd ["heaps"] (spWrittenX CB) := by
  refine F.okX scWritten (fun vs H Q E h => ?_) (fun cdv A outer s H vs Q E hr h => ?_)
  · obtain ⟨v, rfl, _⟩ := h
    rfl
  · obtain ⟨v, rfl, h, k⟩ := h
    have nd := scWritten.nd
    refine ⟨_, (pss_cons (ps_expr (pe_callS cCheck.F (hr.mono (by decide)) (by rfl) cCheck.g cCheck.kp cCheck.b (fun σ => passAt (takes_of rfl rfl rfl rfl) σ) (pa_cons (pv 0) pa_nil)))
    (pss_cons (ps_for PassesOwn.leaving rfl (pi_list (pv 0)) (pg_tup (by rfl) (pgs_cons (pg_name (i := 1) nd rfl (by first | exact Or.inl rfl | exact Or.inr rfl)) (pgs_cons (pg_name (i := 2) nd rfl (by first | exact Or.inl rfl | exact Or.inr rfl)) pgs_nil)))
      (pss_one (ps_if (PW.pt (pw_or (pt_not (pt_val (pe_call cFits.F (hr.mono (by decide)) (by rfl) cFits.g cFits.kp cFits.b .nil pass0 (pa_cons (pv 1) pa_nil)))) (pw_or1 (pt_not (pt_val (pe_call cFits.F (hr.mono (by decide)) (by rfl) cFits.g cFits.kp cFits.b .nil pass0 (pa_cons (pv 2) pa_nil)))))))
        (pss_one (ps_raise rfl (takes_of rfl rfl rfl rfl) (pmk_own PySem.F.excBase_ValueError xH.x xH.g xH.k (raises_own xH.b xH.t) rfl)))
        pss_nil)))
    (pss_cons ps_never
    (pss_one ps_never)))), ?_⟩
    rcases h with h | ⟨a, ps, rfl, hl, ho, hf⟩
    · exact q_chk (ea_cons (ev_var rfl) ea_nil) h k
    · refine q_chkG (ea_cons (ev_var rfl) ea_nil) hl ho fun H1 e1 => ?_
      obtain ⟨vs, h1, h2⟩ := hl.mono e1
      refine q_forL (K := K) (a := a) (xs := vs) (ev_var rfl) (sq_of h1) (fun i σ H' => ∃ o1 o2, σ = [some (.ref a), o1, o2] ∧ Ex H1 H' ∧ (ps.take i).all fitB = true) (fun H2 e2 => ⟨_, _, rfl, e2, rfl⟩) (fun i σ' H' _ ⟨_, _, _, e, _⟩ => SqL.of (e _ _ h1)) (fun i x σ' H2 hi hP => ?_) fun σ' H2 hP => ?_
      · obtain ⟨o1, o2, rfl, e2, hb⟩ := hP
        obtain ⟨q, hq, tq⟩ := pr_get h2 hi
        refine g_pair (tq.mono e2) ?_
        refine s_when (b := !fitB q) (et_is (et_or (a := !decide (q.1.natAbs < 10 ^ 60)) (b := !decide (q.2.natAbs < 10 ^ 60)) (et_not (et_B (ev_fits (ea_cons (ev_var rfl) ea_nil)))) fun _ => et_not (et_B (ev_fits (ea_cons (ev_var rfl) ea_nil)))) (by unfold fitB; rw [Bool.not_and])) (fun c H3 e3 => k H3 ((e1.trans e2).trans e3)) fun c H3 e3 => ⟨_, _, rfl, e2.trans e3, ?_⟩
        have c : fitB q = true := by simpa using c
        rw [take_snoc hq, List.all_append, hb, List.all_cons, c]
        rfl
      · obtain ⟨o1, o2, rfl, e2, hb⟩ := hP
        rw [pr_len h2, List.take_length, hf] at hb
        cases hb
end

end Sp

set_option Elab.async false
set_option linter.all false
set_option maxRecDepth 100000
set_option maxHeartbeats 1000000
namespace Sp
open PySem L2 Mth
open Evl (Ex)
theorem pe_callLS {X : Cx} {CX : CXT} {k i : Nat} {f : Addr} {fd : FuncData} {ps : List Str} {sp : Sp} {E : L2.St → XK} {x : Str} {p pos : Pos} {e : Expr} {es : List Expr} {t : TA} (F : FnOk X.prog X.w X.K X.mg X.base CX k f fd ps sp) (hr : Room k X.A) (hN : X.N[i]? = some x) (hv : Vis X.env.scope x)
    (hk : PySem.W.keepIn X.K (.ref f) = true) (hb : Binds X.K fd ps []) (hx : ∀ σ, PassesAt CX X σ (E σ)) (ha : PA X (e :: es) t) (hdb : (x == Str.ofString "__debug__") = false := by decide) (hcd : (x == Str.ofString "__classdict__") = false := by decide)
    (he : starEach (e :: es) X.env = (false, eval e X.env) :: starEach es X.env := by rfl) (hpl : ((backTo pos (starEach es X.env)).any fun x => x.1) = false := by rfl) :
    PE X (.Call (.Name x p) (e :: es) [] pos) (fun σ H Q => σ[i]? = some (some (.ref f)) ∧ t σ H fun vs H1 => sp vs H1 Q (E σ)) where
  run := fun pins s σ H Q I h => by
    obtain ⟨hs, ht⟩ := h
    refine wpAny_Call_Name_kw (thn ((pe_var hN hv hdb hcd).run pins s σ H (fun v H1 => v = V.ref f ∧ H1 = H) I ⟨V.ref f, hs, rfl, rfl⟩) fun u s1 x => ?_)
    obtain ⟨v, H1, I1, r1, rfl, rfl⟩ := x
    obtain rfl : u = Value.ref f := r1
    refine W.callWith_K I.ok.mod.kin hk (thn (ha.run pos pins s1 σ _ _ I1 ht) fun us s2 x => ?_) he hpl
    obtain ⟨vs, H2, I2, r, q⟩ := x
    exact ⟨Inv.kIn I2, run_fnS F hr hb (hx σ) I2 r q⟩
theorem pss_given {X : Cx} {st : List Stmt} {c : Prop} {t : TS} (h : c → PSs X st t) : PSs X st (fun D σ H => c ∧ t D σ H) :=
  ⟨fun pins s σ H D I q => (h q.1).run pins s σ H D I q.2⟩
section
open Evl
variable {σ : L2.St} {H : Hp} {ta : TA} {te tb : TE} {tt : TT} {W : WX} {v p : V} {CB CP : Addr} {ps : List P2} {D : Ends}
/-- what raises -/
def RX (te : TE) (σ : L2.St) (H : Hp) : Prop := ∀ H1, Ex H H1 → ∀ Q : VK, te σ H1 Q
theorem rx_d1 (ha : EvA ta σ H [v]) (h : BadH H v) (k : ∀ H', Ex H H' → W (.ref CB) none σ H') : RX (tCallS (spDoor1 CB) (WE W) ta) σ H := fun H1 e Q =>
  ha H1 e _ fun H2 e2 => ⟨v, rfl, h.mono (e.trans e2), fun H' e' => k H' ((e.trans e2).trans e')⟩
theorem rx_d2 (ha : EvA ta σ H [v, p]) (h : BadH H v) (k : ∀ H', Ex H H' → W (.ref CB) none σ H') : RX (tCallS (spDoor2 CB CP) (WE W) ta) σ H := fun H1 e Q =>
  ha H1 e _ fun H2 e2 => ⟨v, p, rfl, .inl ⟨h.mono (e.trans e2), fun H' e' => k H' ((e.trans e2).trans e')⟩⟩
theorem rx_d2p (ha : NL te σ H ps) (ho : Ok ps) (hb : Ev tb σ H p) (hp : PV H p) (hn : isN p = false) (k : ∀ H', Ex H H' → W (.ref CP) none σ H') : RX (tCallS (spDoor2 CB CP) (WE W) (tCons te (tCons tb tNil))) σ H := fun H1 e Q =>
  ha H1 e _ fun l H2 _ e2 hl => hb H2 (e.trans e2) _ fun H3 e3 => ⟨_, _, rfl, .inr ⟨l, ps, rfl, hl.mono e3, ho, hp.mono ((e.trans e2).trans e3), hn, fun H' e' => k H' (((e.trans e2).trans e3).trans e')⟩⟩
theorem rx_wr (ha : EvA ta σ H [v]) (h : BadH H v ∨ GreatH H v) (k : ∀ H', Ex H H' → W (.ref CB) none σ H') : RX (tCallS (spWrittenX CB) (WE W) ta) σ H := fun H1 e Q =>
  ha H1 e _ fun H2 e2 => ⟨v, rfl, h.imp (·.mono (e.trans e2)) (·.mono (e.trans e2)), fun H' e' => k H' ((e.trans e2).trans e')⟩
theorem rx_if {b : Bool} (h : EvT tt σ H b) (h1 : b = true → ∀ H1, Ex H H1 → RX te σ H1) (h2 : b = false → ∀ H1, Ex H H1 → RX tb σ H1) : RX (tIf tt te tb) σ H := fun H1 e Q =>
  h H1 e _ fun H2 e2 => by
    cases b with
    | true => rw [if_pos rfl]; exact h1 rfl H2 (e.trans e2) H2 (Ex.refl _) Q
    | false => rw [if_neg Bool.false_ne_true]; exact h2 rfl H2 (e.trans e2) H2 (Ex.refl _) Q
theorem s_retX (h : RX te σ H) : tRet te D σ H := h H (Ex.refl _) _
end
section
variable {P : Program} {w : World} {K : PySem.W.Frag} {mg : Str → Option Value} {base : Heap}
abbrev nLawWithHeaps : List Str := ["_law_door", "_law_heaps_here"]
theorem scLawWithHeaps : FnScope ["_law_door", "_law_heaps_here"] ["_law_door", "_law_heaps_here"] (defScope sLawWithHeaps) := ⟨rfl, rfl, rfl, by decide +kernel, rfl, by decide +kernel, by decide +kernel⟩
def spWH (CB : Addr) : Sp := fun vs H Q E => ∃ d v, vs = [.int d, v] ∧ (BadH H v ∨ (d = 4 ∧ GreatH H v)) ∧ ∀ H', Ex H H' → E (.ref CB) none H'
open Evl in
theorem okWH {f fS fL fG fA fW CB CP : Addr} {fd fdS fdL fdG fdA fdW : FuncData} (F : Fun K "_law_with_heaps" "_law_with_heaps" sLawWithHeaps f fd) (cSpread : Clx P w K mg base "spread" 4 ["heaps"] (spDoor1 CB) fS fdS) (cLeft : Clx P w K mg base "left" 4 ["heaps", "place"] (spDoor2 CB CP) fL fdL)
    (cGave : Clx P w K mg base "gave" 4 ["heaps", "place"] (spDoor2 CB CP) fG fdG) (cAll : Clx P w K mg base "all_gave" 4 ["heaps"] (spDoor1 CB) fA fdA) (cWritten : Clx P w K mg base "written" 4 ["heaps"] (spWrittenX CB) fW fdW) : FnOk P w K mg base (L2.CX P w) 5 f fd ["_law_door", "_law_heaps_here"] (spWH CB) := by
  refine F.okX scLawWithHeaps (fun vs H Q E h => ?_) (fun cdv A outer s H vs Q E hr h => ?_)
  · obtain ⟨d, v, rfl, _⟩ := h
    rfl
  · obtain ⟨d, v, rfl, h, k⟩ := h
    refine ⟨_, (pss_cons (ps_if (pt_cmpR op_lt (pv 0) pe_int (nomark _))
      (pss_one (ps_ret (pe_ifExp (pt_cmpR op_eq (pv 0) pe_int (nomark _)) (pe_callS cSpread.F (hr.mono (by decide)) (by rfl) cSpread.g cSpread.kp cSpread.b (fun σ => passAt (takes_of rfl rfl rfl rfl) σ) (pa_cons (pv 1) pa_nil)) (pe_ifExp (pt_cmpR op_eq (pv 0) pe_int (nomark _)) (pe_callS cLeft.F (hr.mono (by decide)) (by rfl) cLeft.g cLeft.kp cLeft.b (fun σ => passAt (takes_of rfl rfl rfl rfl) σ) (pa_cons (pv 1) (pa_cons pe_non pa_nil))) (pe_callS cGave.F (hr.mono (by decide)) (by rfl) cGave.g cGave.kp cGave.b (fun σ => passAt (takes_of rfl rfl rfl rfl) σ) (pa_cons (pv 1) (pa_cons pe_str pa_nil)))))))
      pss_nil)
    (pss_one (ps_ret (pe_ifExp (pt_cmpR op_eq (pv 0) pe_int (nomark _)) (pe_callS cAll.F (hr.mono (by decide)) (by rfl) cAll.g cAll.kp cAll.b (fun σ => passAt (takes_of rfl rfl rfl rfl) σ) (pa_cons (pv 1) pa_nil)) (pe_callS cWritten.F (hr.mono (by decide)) (by rfl) cWritten.g cWritten.kp cWritten.b (fun σ => passAt (takes_of rfl rfl rfl rfl) σ) (pa_cons (pv 1) pa_nil)))))), ?_⟩
    refine q_when (e_lt (ev_var rfl) ev_c) (fun c H1 e1 => ?_) fun c H1 e1 => ?_
    · have c := of_decide_eq_true c
      have hb : BadH H v := h.resolve_right fun z => by omega
      have hb := hb.mono e1
      refine s_retX (rx_if (e_eqi (ev_var rfl) ev_c) (fun _ H2 e2 => rx_d1 (ea_cons (ev_var rfl) ea_nil) (hb.mono e2) fun H' e => k H' ((e1.trans e2).trans e)) fun _ H2 e2 => rx_if (e_eqi (ev_var rfl) ev_c) (fun _ H3 e3 => rx_d2 (ea_cons (ev_var rfl) (ea_cons ev_c ea_nil)) ((hb.mono e2).mono e3) fun H' e => k H' (((e1.trans e2).trans e3).trans e)) fun _ H3 e3 => rx_d2 (ea_cons (ev_var rfl) (ea_cons ev_c ea_nil)) ((hb.mono e2).mono e3) fun H' e => k H' (((e1.trans e2).trans e3).trans e))
    · refine s_retX (rx_if (e_eqi (ev_var rfl) ev_c) (fun c2 H2 e2 => ?_) fun _ H2 e2 => ?_)
      · have c2 := of_decide_eq_true c2
        have hb : BadH H v := h.resolve_right fun z => by omega
        exact rx_d1 (ea_cons (ev_var rfl) ea_nil) ((hb.mono e1).mono e2) fun H' e => k H' ((e1.trans e2).trans e)
      · exact rx_wr (ea_cons (ev_var rfl) ea_nil) (h.imp (fun z => (z.mono e1).mono e2) fun z => (z.2.mono e1).mono e2) fun H' e => k H' ((e1.trans e2).trans e)
abbrev nLawWithPlace : List Str := ["_law_door", "_law_place"]
theorem scLawWithPlace : FnScope ["_law_door", "_law_place"] ["_law_door", "_law_place"] (defScope sLawWithPlace) := ⟨rfl, rfl, rfl, by decide +kernel, rfl, by decide +kernel, by decide +kernel⟩
def spWP (CP : Addr) : Sp := fun vs H Q E => ∃ d p, vs = [.int d, p] ∧ PV H p ∧ isN p = false ∧ ∀ H', Ex H H' → E (.ref CP) none H'
open Evl in
theorem okWP {f fL fG CB CP : Addr} {fd fdL fdG : FuncData} (F : Fun K "_law_with_place" "_law_with_place" sLawWithPlace f fd) (cLeft : Clx P w K mg base "left" 4 ["heaps", "place"] (spDoor2 CB CP) fL fdL)
    (cGave : Clx P w K mg base "gave" 4 ["heaps", "place"] (spDoor2 CB CP) fG fdG) : FnOk P w K mg base (L2.CX P w) 5 f fd ["_law_door", "_law_place"] (spWP CP) := by
  refine F.okX scLawWithPlace (fun vs H Q E h => ?_) (fun cdv A outer s H vs Q E hr h => ?_)
  · obtain ⟨d, p, rfl, _⟩ := h
    rfl
  · obtain ⟨d, p, rfl, hp, hn, k⟩ := h
    refine ⟨_, (pss_one (ps_ret (pe_ifExp (pt_cmpR op_eq (pv 0) pe_int (nomark _)) (pe_callS cLeft.F (hr.mono (by decide)) (by rfl) cLeft.g cLeft.kp cLeft.b (fun σ => passAt (takes_of rfl rfl rfl rfl) σ) (pa_cons (pe_lst (pa_cons (pe_tup (pa_cons pe_int (pa_cons pe_int pa_nil))) pa_nil)) (pa_cons (pv 1) pa_nil))) (pe_callS cGave.F (hr.mono (by decide)) (by rfl) cGave.g cGave.kp cGave.b (fun σ => passAt (takes_of rfl rfl rfl rfl) σ) (pa_cons (pe_lst (pa_cons (pe_tup (pa_cons pe_int (pa_cons pe_int pa_nil))) pa_nil)) (pa_cons (pv 1) pa_nil)))))), ?_⟩
    have o5 : Ok [((0 : Int), (5 : Int))] := fun x hx => by rcases List.mem_singleton.mp hx with rfl; decide
    refine s_retX (rx_if (e_eqi (ev_var rfl) ev_c) (fun _ H2 e2 => rx_d2p (nl_lst (na_cons (np_pair (p := (0, 5)) ev_c ev_c) na_nil) (by simp)) o5 (ev_var rfl) (hp.mono e2) hn fun H' e => k H' (e2.trans e)) fun _ H2 e2 => rx_d2p (nl_lst (na_cons (np_pair (p := (0, 5)) ev_c ev_c) na_nil) (by simp)) o5 (ev_var rfl) (hp.mono e2) hn fun H' e => k H' (e2.trans e))
/-! what is caught -/
open Evl in
theorem e_isE {σ : L2.St} {H : Hp} {ta : TE} {a D : Addr} {c : V} {cv : Value} {b : Bool} (ha : Ev ta σ H (.ref a)) (hc : ∀ u, L2.RelV c u → u = cv) (hk : PySem.W.kitOne K (.ref D) cv = some b) : Ev (tCB (rIsE K D a) (tCons ta (tCons (tC c) tNil))) σ H (.bl b) := fun H1 e Q q =>
  ha H1 e _ fun H2 e2 => ⟨c, cv, b, rfl, hc, hk, q H2 e2⟩
structure KE (K : PySem.W.Frag) (D CB CP CT : Addr) (b1 b2 b3 : Bool) : Prop where
  c : ExcC K D
  k1 : PySem.W.kitOne K (.ref D) (.ref CB) = some b1
  k2 : PySem.W.kitOne K (.ref D) (.ref CP) = some b2
  k3 : PySem.W.kitOne K (.ref D) (.ref CT) = some b3
  k4 : PySem.W.kitOne K (.ref D) (.type "ValueError") = some true
abbrev nLawTold : List Str := ["_law_ask", "_law_one", "_law_other", "_law_found", "error"]
theorem scLawTold : FnScope ["_law_ask", "_law_one", "_law_other", "_law_found", "error"] ["_law_ask", "_law_one", "_law_other"] (defScope sLawTold) := ⟨rfl, rfl, rfl, by decide +kernel, rfl, by decide +kernel, by decide +kernel⟩
def spTold (fA : Addr) (spA : Sp) (D : Addr) (b1 b2 b3 : Bool) : Sp := fun vs H Q _ => ∃ x y, vs = [.ref fA, x, y] ∧ (∀ H1, Ex H H1 → ∀ (Q' : VK) (E' : XK), (∀ H', Ex H1 H' → E' (.ref D) none H') → spA [x, y] H1 Q' E') ∧
  ∀ H' p, Ex H H' → H p = none → H' p = some (.lst [.bl b1, .bl b2, .bl b3, .bl true]) → Q (.ref p) H'
open Evl in
theorem okTold {f fA D CB CP CT CH : Addr} {fd fdA : FuncData} {spA : Sp} {ps : List Str} {b1 b2 b3 : Bool} (F : Fun K "_law_told" "_law_told" sLawTold f fd) (m : Ms mg) (gA : FnOk P w K mg base (L2.CX P w) 5 fA fdA ps spA) (kA : PySem.W.keepIn K (.ref fA) = true) (bA : Binds K fdA ps [])
    (gH : mg "HeapError" = some (.ref CH)) (gB : mg "BadHeaps" = some (.ref CB)) (gP : mg "BadPlace" = some (.ref CP)) (gT : mg "BadText" = some (.ref CT)) (mV : mg "ValueError" = none) (ex : PySem.W.exmOne K (.ref D) (.ref CH) = some true) (ke : KE K D CB CP CT b1 b2 b3) : FnOk P w K mg base CX0 6 f fd ["_law_ask", "_law_one", "_law_other"] (spTold fA spA D b1 b2 b3) := by
  refine F.ok scLawTold (fun vs H Q E h => ?_) (fun cdv A outer s H vs Q E hr h => ?_)
  · obtain ⟨x, y, rfl, _⟩ := h
    rfl
  · obtain ⟨x, y, rfl, hA, k⟩ := h
    have nd := scLawTold.nd
    refine ⟨_, pss_cons (ps_try_as (i := 4) (tb := fun W => tDrop (fun σ H Q => σ[0]? = some (some (.ref fA)) ∧ (tCons (tVar 1) (tCons (tVar 2) tNil)) σ H fun vs H1 => spA vs H1 Q (WE W σ)))
      (ts := fun a cls d D2 σ H => (cls = .ref D ∧ d = none) ∧ tSeq (tAsg (tLst (tCons (tCB (rIsE K D a) (tCons (tVar 4) (tCons (tC (.ref CB)) tNil))) (tCons (tCB (rIsE K D a) (tCons (tVar 4) (tCons (tC (.ref CP)) tNil))) (tCons (tCB (rIsE K D a) (tCons (tVar 4) (tCons (tC (.ref CT)) tNil))) tNil)))) (gName 3))
        (tRet (tOp rCat (tVar 3) (tLst (tCons (tCB (rIsE K D a) (tCons (tVar 4) (tCons (tC (.ty "ValueError")) tNil))) tNil)))) D2 σ H) (Wout := fun _ _ _ _ => False) rfl rfl nd rfl rfl ⟨rfl, by decide, .inl gH⟩ takes0
      (fun W pn xe tk _ => pss_one (ps_expr (pe_callLS gA (hr.mono (by decide)) rfl (by first | exact Or.inl rfl | exact Or.inr (Or.inl rfl)) kA bA (fun σ => passAt tk σ) (by exact (pa_cons (pv 1) (pa_cons (pv 2) pa_nil))))))
      (fun a oe cls d pn hz hf => pss_given fun hc => by
        obtain ⟨rfl, rfl⟩ := hc
        exact pss_cons (ps_set (i := 3) nd rfl (by first | exact Or.inl rfl | exact Or.inr rfl) (pe_lst (pa_cons (pe_callB (call_isE ke.c hz hf) (by rfl) m.isinstance_ (by decide +kernel) (pa_cons (pv 4) (pa_cons (pe_glob (v := .ref _) (by rfl) gB rfl) pa_nil))) (pa_cons (pe_callB (call_isE ke.c hz hf) (by rfl) m.isinstance_ (by decide +kernel) (pa_cons (pv 4) (pa_cons (pe_glob (v := .ref _) (by rfl) gP rfl) pa_nil))) (pa_cons (pe_callB (call_isE ke.c hz hf) (by rfl) m.isinstance_ (by decide +kernel) (pa_cons (pv 4) (pa_cons (pe_glob (v := .ref _) (by rfl) gT rfl) pa_nil))) pa_nil)))))
          (pss_one (ps_ret (pe_op op_cat (pv 3) (pe_lst (pa_cons (pe_callB (call_isE ke.c hz hf) (by rfl) m.isinstance_ (by decide +kernel) (pa_cons (pv 4) (pa_cons (pe_bltn (v := .ty "ValueError") (by rfl) mV (by decide +kernel) rfl) pa_nil))) pa_nil)))))))
      (pss_one (ps_ret (pe_lst pa_nil))), ?_⟩
    refine ⟨rfl, _, rfl, _, rfl, hA H (Ex.refl _) _ _ fun H1 e1 => ⟨true, ex, fun _ a ha => ⟨⟨rfl, rfl⟩, ?_⟩, fun z => nomatch z⟩⟩
    refine q_asgL (el_lst (vs := [.bl b1, .bl b2, .bl b3]) (ea_cons (e_isE (c := .ref CB) (cv := .ref CB) (ev_var rfl) (fun u r => r) ke.k1) (ea_cons (e_isE (c := .ref CP) (cv := .ref CP) (ev_var rfl) (fun u r => r) ke.k2) (ea_cons (e_isE (c := .ref CT) (cv := .ref CT) (ev_var rfl) (fun u r => r) ke.k3) ea_nil))) (by simp)) fun p H2 np e2 hp => ?_
    refine el_cat (vl_of (ev_var rfl) hp) (vl_new (el_lst (vs := [.bl true]) (ea_cons (e_isE (c := .ty "ValueError") (cv := .type "ValueError") (ev_var rfl) (fun u r => r) ke.k4) ea_nil) (by simp))) (by simp) H2 (Ex.refl _) _ fun q H3 nq e3 hq => ?_
    exact k H3 q ((e1.trans e2).trans e3) (Evl.fresh_back (e1.trans e2) nq) hq
end

end Sp

set_option Elab.async false
set_option linter.all false
set_option maxRecDepth 100000
set_option maxHeartbeats 1000000
namespace Sp
open PySem L2 Mth
open Evl (Ex)
section
open Evl
variable {K : PySem.W.Frag} {σ : L2.St} {H : Hp} {ta tb te tl : TE} {xs ys : List V} {bs cs : List Bool} {a : Addr} {D : Ends}
theorem bl_dp {H : Hp} (h : H a = some (.lst (bs.map V.bl))) : Dp K H (.ref a) (.list (bs.map .bool)) := by
  refine .lst (SqL.of h) ?_
  have : ∀ bs : List Bool, DpAll K H (bs.map V.bl) (bs.map PyData.bool) := by
    intro bs
    induction bs with
    | nil => exact .nil
    | cons a r ih => exact .cons (.bl _) ih
  exact this bs
theorem bl_shp (bs : List Bool) : SeqAt.shaped (.list (bs.map .bool)) = true := by
  have l1 : ∀ bs : List Bool, PyData.canLayAll0 (bs.map PyData.bool) = true := by
    intro bs
    induction bs with
    | nil => rfl
    | cons a r ih => rw [List.map_cons, PyData.canLayAll0, ih]; rfl
  have l2 : ∀ bs : List Bool, PyData.depthAll (bs.map PyData.bool) ≤ 1 := by
    intro bs
    induction bs with
    | nil => exact Nat.zero_le _
    | cons a r ih =>
      rw [List.map_cons, PyData.depthAll]
      refine Nat.max_le.mpr ⟨?_, ih⟩
      simp [PyData.depth]
  unfold SeqAt.shaped
  rw [Bool.and_eq_true]
  refine ⟨?_, decide_eq_true ?_⟩
  · show PyData.canLay0 (.list (bs.map .bool)) = true
    rw [PyData.canLay0]
    exact l1 bs
  · rw [PyData.depth]
    have := l2 bs
    omega
theorem bl_eqv : ∀ bs : List Bool, (PyData.list (bs.map .bool)).eqv (.list (bs.map .bool)) = true := by
  intro bs
  simp only [PyData.eqv]
  induction bs with
  | nil => simp [PyData.eqvAll]
  | cons b r ih => rw [List.map_cons, PyData.eqvAll, ih]; cases b <;> simp [PyData.eqv]
theorem e_eqBL (ha : VL ta σ H (bs.map V.bl)) (hb : VL tb σ H (bs.map V.bl)) : Ev (tOp (rEqD K) ta tb) σ H (.bl true) := fun H1 e Q q =>
  ha H1 e _ fun p H2 e2 hp => hb H2 (e.trans e2) _ fun p2 H3 e3 hp2 => ⟨_, _, bl_dp (e3 _ _ hp), bl_dp hp2, bl_shp bs, bl_shp bs, by rw [bl_eqv]; exact q H3 (e2.trans e3)⟩
theorem e_neBL (ha : VL ta σ H (bs.map V.bl)) (hb : VL tb σ H (bs.map V.bl)) : Ev (tOp (rNeD K) ta tb) σ H (.bl false) := fun H1 e Q q =>
  ha H1 e _ fun p H2 e2 hp => hb H2 (e.trans e2) _ fun p2 H3 e3 hp2 => ⟨_, _, bl_dp (e3 _ _ hp), bl_dp hp2, bl_shp bs, bl_shp bs, by rw [bl_eqv]; exact q H3 (e2.trans e3)⟩
end
/-- this way of asking tells a refusal of the class at D -/
def Asks (spA : Sp) (D : Addr) (H : Hp) (x y : V) : Prop := ∀ H1, Ex H H1 → ∀ (Q' : VK) (E' : XK), (∀ H', Ex H1 H' → E' (.ref D) none H') → spA [x, y] H1 Q' E'
theorem Asks.mono {spA : Sp} {D : Addr} {H H' : Hp} {x y : V} (e : Ex H H') (h : Asks spA D H x y) : Asks spA D H' x y := fun H1 e1 => h H1 (e.trans e1)
open Evl in
theorem el_told {σ : L2.St} {H : Hp} {ta : TA} {fA D : Addr} {spA : Sp} {b1 b2 b3 : Bool} {x y : V} (h : EvA ta σ H [.ref fA, x, y]) (ha : Asks spA D H x y) : EvL (tCall (spTold fA spA D b1 b2 b3) [] E0 ta) σ H [.bl b1, .bl b2, .bl b3, .bl true] := fun H1 e Q k =>
  h H1 e _ fun H2 e2 => ⟨x, y, rfl, ha.mono (e.trans e2), fun H' p e3 np hp => k p H' (Evl.fresh_back e2 np) (e2.trans e3) hp⟩
section
variable {P : Program} {w : World} {K : PySem.W.Frag} {mg : Str → Option Value} {base : Heap}
abbrev nLawAll : List Str := ["_law_ask", "_law_doors", "_law_things", "_law_due", "_law_door", "_law_thing"]
theorem scLawAll : FnScope ["_law_ask", "_law_doors", "_law_things", "_law_due", "_law_door", "_law_thing"] ["_law_ask", "_law_doors", "_law_things", "_law_due"] (defScope sLawAll) := ⟨rfl, rfl, rfl, by decide +kernel, rfl, by decide +kernel, by decide +kernel⟩
def spAllT (fA : Addr) (spA : Sp) (D : Addr) (b1 b2 b3 : Bool) : Sp := fun vs H Q _ => ∃ dl tl ul ds xs, vs = [.ref fA, .ref dl, .ref tl, .ref ul] ∧ IL H dl ds ∧ H tl = some (.lst xs) ∧ xs.length ≤ 1000 ∧ H ul = some (.lst [.bl b1, .bl b2, .bl b3, .bl true]) ∧ (∀ d ∈ ds, ∀ x ∈ xs, Asks spA D H (.int d) x) ∧ ∀ H', Ex H H' → Q (.bl true) H'
open Evl in
theorem okAllT {f fT fA D : Addr} {fd fdT : FuncData} {spA : Sp} {b1 b2 b3 : Bool} (F : Fun K "_law_all" "_law_all" sLawAll f fd) (m : Ms mg) (cTold : Cl P w K mg base "_law_told" 6 ["_law_ask", "_law_one", "_law_other"] (spTold fA spA D b1 b2 b3) fT fdT) : FnOk P w K mg base CX0 7 f fd ["_law_ask", "_law_doors", "_law_things", "_law_due"] (spAllT fA spA D b1 b2 b3) := by
  refine F.ok scLawAll (fun vs H Q E h => ?_) (fun cdv A outer s H vs Q E hr h => ?_)
  · obtain ⟨dl, tl, ul, ds, xs, rfl, _⟩ := h
    rfl
  · obtain ⟨dl, tl, ul, ds, xs, rfl, hd, hx, hlen, hu, ask, k⟩ := h
    have nd := scLawAll.nd
    refine ⟨_, (pss_cons (ps_for PassesOwn.never rfl (pi_list (pv 1)) (pg_name (i := 4) nd rfl (by first | exact Or.inl rfl | exact Or.inr rfl))
      (pss_one (ps_if (pt_not (pt_val (pe_callB (cr_all rfl) (by rfl) m.all_ (by decide +kernel) (pa_cons (pe_lc (own := [("_law_thing", 5)]) (g := (gName 5)) rfl nd (pi_list (pv 2)) (blkOk_by (own := [("_law_thing", 5)]) (N := nLawAll) (sc := defScope sLawAll) (by decide +kernel)) (fun _ _ _ _ _ => (pg_name (i := 5) nd rfl (by first | exact Or.inl rfl | exact Or.inr rfl))) (fun _ _ _ _ _ => pts_nil) (fun _ _ _ _ _ => (pe_cmpR (show OpR _ (compareOp .Eq) (rEqD K) from op_eqD hr.units) (pe_call cTold.F (hr.mono (by decide)) (by rfl) cTold.g cTold.kp cTold.b .nil pass0 (pa_cons (pv 0) (pa_cons (pv 4) (pa_cons (pv 5) pa_nil)))) (pv 3) (nomark _)))) pa_nil))))
        (pss_one (ps_ret pe_bl))
        pss_nil)))
    (pss_one (ps_ret pe_bl))), ?_⟩
    refine q_forL (K := K) (a := dl) (xs := ds.map V.int) (ev_var rfl) (sq_of hd) (fun i σ H' => ∃ o4, σ = [some (.ref fA), some (.ref dl), some (.ref tl), some (.ref ul), o4, none] ∧ Ex H H') (fun H2 e2 => ⟨_, rfl, e2⟩) (fun i σ' H' _ ⟨_, _, e⟩ => SqL.of (e _ _ hd)) (fun i y σ' H2 hi hP => ?_) fun σ' H2 hP => ?_
    · obtain ⟨o4, rfl, e2⟩ := hP
      rw [List.getElem?_map] at hi
      obtain ⟨z, hz, rfl⟩ := Option.map_eq_some_iff.mp hi
      have hz := List.mem_of_getElem? hz
      unfold gName
      refine s_when (b := false) (et_is (et_not (et_B (e_all (bs := xs.map fun _ => true) (el_is (lcV_all (g := fun _ => .bl true) (fun _ => rfl) (vl_of (ev_var rfl) (e2 _ _ hx)) (by omega) (fun x hx1 H1 e1 => e_eqBL (bs := [b1, b2, b3, true]) (vl_new (el_told (ea_cons (ev_var rfl) (ea_cons (ev_var rfl) (ea_cons (ev_var rfl) ea_nil))) ((ask z hz x hx1).mono (e2.trans e1)))) (vl_of (ev_var rfl) ((e2.trans e1) _ _ hu)))) (by rw [List.map_map]; rfl))))) ?_) (fun z => nomatch z) fun _ H3 e3 => ⟨_, rfl, e2.trans e3⟩
      have : (xs.map fun _ => true).all id = true := by rw [List.all_map]; exact List.all_eq_true.mpr fun _ _ => rfl
      rw [this]
      rfl
    · obtain ⟨o4, rfl, e2⟩ := hP
      exact k H2 e2
end

end Sp

set_option Elab.async false
set_option linter.all false
set_option maxRecDepth 100000
set_option maxHeartbeats 1000000
namespace Sp
open PySem L2 Mth
open Evl (Ex)
/-! ### what is no heaps, made -/
section
open Evl
variable {K : PySem.W.Frag} {σ : L2.St} {H H' : Hp} {ta tb te : TE} {tq tr : TA} {xs : List V} {qs ps : List P2} {a : Addr} {R : Hp → V → Prop} {n m : Nat} {v : V} {bs cs : List Bool}
/-- some value of a kind -/
def SV (te : TE) (σ : L2.St) (H : Hp) (R : Hp → V → Prop) : Prop := ∀ H1, Ex H H1 → ∀ Q : VK, (∀ v H2, Ex H1 H2 → R H2 v → Q v H2) → te σ H1 Q
def St1 (R : Hp → V → Prop) : Prop := ∀ H H' v, Ex H H' → R H v → R H' v
theorem sv_imp {S : Hp → V → Prop} (h : SV te σ H R) (k : ∀ H v, R H v → S H v) : SV te σ H S := fun H1 e Q q => h H1 e Q fun v H2 e2 r => q v H2 e2 (k _ _ r)
theorem sv_ev (h : Ev te σ H v) (hr : ∀ H1, Ex H H1 → R H1 v) : SV te σ H R := fun H1 e Q q => h H1 e _ fun H2 e2 => q v H2 e2 (hr H2 (e.trans e2))
theorem sv_tupC (h : EvA tq σ H xs) (hz : xs.length ≤ 1000) : SV (tTup tq) σ H (fun H v => ∃ t, v = .ref t ∧ H t = some (.tup xs)) := fun H1 e Q q =>
  h H1 e _ fun H2 e2 => ⟨sz_of (by omega), fun p np => q _ _ (e2.trans (Ex.new np)) ⟨p, rfl, upd_same⟩⟩
theorem sv_tup1 (h : SV te σ H R) : SV (tTup (tCons te tNil)) σ H (fun H v => ∃ t xs, v = .ref t ∧ H t = some (.tup xs)) := fun H1 e Q q =>
  h H1 e _ fun v H2 e2 _ => ⟨(by show 1 ≤ sizeLine; decide), fun p np => q _ _ (e2.trans (Ex.new np)) ⟨p, _, rfl, upd_same⟩⟩
theorem sv_dnew : SV tDNewK σ H (fun H v => ∃ t, v = .ref t ∧ H t = some (.dK [])) := fun H1 e Q q p np => q _ _ (Ex.new np) ⟨p, rfl, upd_same⟩
theorem sv_lst1 (h : SV te σ H fun H v => HpV H v false) : SV (tLst (tCons te tNil)) σ H BadH := fun H1 e Q q =>
  h H1 e _ fun v H2 e2 r => ⟨(by show 1 ≤ sizeLine; decide), fun p np => q _ _ (e2.trans (Ex.new np)) (.inr ⟨p, [v], [false], rfl, upd_same, .cons (r.mono (Ex.new np)) .nil, rfl⟩)⟩
theorem sv_lst2 (h : SV ta σ H fun H v => HpV H v true) (g : SV tb σ H fun H v => HpV H v false) : SV (tLst (tCons ta (tCons tb tNil))) σ H BadH := fun H1 e Q q =>
  h H1 e _ fun v H2 e2 r => g H2 (e.trans e2) _ fun v' H3 e3 r' => ⟨(by show 2 ≤ sizeLine; decide), fun p np => q _ _ ((e2.trans e3).trans (Ex.new np)) (.inr ⟨p, [v, v'], [true, false], rfl, upd_same, .cons ((r.mono e3).mono (Ex.new np)) (.cons (r'.mono (Ex.new np)) .nil), rfl⟩)⟩
theorem sv_lstC (h : EvA tq σ H xs) (hz : xs.length ≤ 1000) : SV (tLst tq) σ H (fun H v => ∃ t, v = .ref t ∧ H t = some (.lst xs)) := fun H1 e Q q =>
  h H1 e _ fun H2 e2 => ⟨sz_of (by omega), fun p np => q _ _ (e2.trans (Ex.new np)) ⟨p, rfl, upd_same⟩⟩
/-- a row of such -/
def VA (tq : TA) (σ : L2.St) (H : Hp) (R : Hp → V → Prop) (n : Nat) : Prop := ∀ H1, Ex H H1 → ∀ Q : List V → Hp → Prop, (∀ vs H2, Ex H1 H2 → vs.length = n → (∀ v ∈ vs, R H2 v) → Q vs H2) → tq σ H1 Q
theorem va_nil : VA tNil σ H R 0 := fun H1 e Q q => q [] H1 (Ex.refl _) rfl (fun _ h => nomatch h)
theorem va_cons (s : St1 R) (h : SV te σ H R) (g : VA tq σ H R n) : VA (tCons te tq) σ H R (n + 1) := fun H1 e Q q =>
  h H1 e _ fun v H2 e2 r => g H2 (e.trans e2) _ fun vs H3 e3 hl hr => q (v :: vs) H3 (e2.trans e3) (by rw [List.length_cons, hl]) fun x hx => by
    rcases List.mem_cons.mp hx with rfl | hx
    · exact s _ _ _ e3 r
    · exact hr x hx
/-- a new list of such -/
def NW (te : TE) (σ : L2.St) (H : Hp) (R : Hp → V → Prop) (n : Nat) : Prop := ∀ H1, Ex H H1 → ∀ Q : VK, (∀ p H2 vs, H1 p = none → Ex H1 H2 → vs.length = n → (∀ v ∈ vs, ∃ Hm, Ex Hm H2 ∧ Hm p = none ∧ R Hm v) → H2 p = some (.lst vs) → Q (.ref p) H2) → te σ H1 Q
theorem nw_lst (h : VA tq σ H R n) (hz : n ≤ 1000) : NW (tLst tq) σ H R n := fun H1 e Q q =>
  h H1 e _ fun vs H2 e2 hl hr => ⟨sz_of (by omega), fun p np => q p _ vs (Evl.fresh_back e2 np) (e2.trans (Ex.new np)) hl (fun v hv => ⟨H2, Ex.new np, np, hr v hv⟩) upd_same⟩
theorem nw_cat (s : St1 R) (h : ∃ l vs, Ev ta σ H (.ref l) ∧ H l = some (.lst vs) ∧ vs.length = n ∧ ∀ v ∈ vs, R H v) (g : NW tb σ H R m) (hz : n + m ≤ 1000) : NW (tOp rCat ta tb) σ H R (n + m) := fun H1 e Q q => by
  obtain ⟨l, vs, ha, hl, hn, hr⟩ := h
  refine ha H1 e _ fun H2 e2 => g H2 (e.trans e2) _ fun b H3 ws nb e3 hm hw hb => ?_
  refine ⟨l, b, vs, ws, rfl, rfl, ((e.trans e2).trans e3) _ _ hl, hb, sz_of (by omega), fun r nr => ?_⟩
  refine q r _ (vs ++ ws) (Evl.fresh_back (e2.trans e3) nr) ((e2.trans e3).trans (Ex.new nr)) (by rw [List.length_append]; omega) (fun v hv => ⟨H3, Ex.new nr, nr, ?_⟩) upd_same
  rcases List.mem_append.mp hv with hv | hv
  · exact s _ _ _ ((e.trans e2).trans e3) (hr v hv)
  · obtain ⟨Hm, h1, _, h3⟩ := hw v hv
    exact s _ _ _ h1 h3
theorem bad_st : St1 BadH := fun _ _ _ e h => h.mono e
/-- no heaps, and the list at n is no part of it -/
def BadN (n : Addr) (H : Hp) (v : V) : Prop := ∃ Hm, Ex Hm H ∧ Hm n = none ∧ BadH Hm v
theorem BadN.mono {n : Addr} (e : Ex H H') (h : BadN n H v) : BadN n H' v := by
  obtain ⟨Hm, h1, h2, h3⟩ := h
  exact ⟨Hm, h1.trans e, h2, h3⟩
theorem BadN.upd {n : Addr} {o : HO} (h : BadN n H v) : BadN n (L2.upd H n o) v := by
  obtain ⟨Hm, h1, h2, h3⟩ := h
  exact ⟨Hm, fun b o' e => by rw [upd_ne (fun z => by rw [z, h2] at e; cases e)]; exact h1 b o' e, h2, h3⟩
theorem BadN.bad {n : Addr} (h : BadN n H v) : BadH H v := by
  obtain ⟨Hm, h1, h2, h3⟩ := h
  exact h3.mono h1
/-- a strange thing among heaps -/
inductive Odd1 (n : Addr) (H : Hp) : V → Prop where
  | non : Odd1 n H .non
  | one {t : Addr} {i : Int} (h : H t = some (.tup [.int i])) : Odd1 n H (.ref t)
  | low {t : Addr} {i c : Int} (h : H t = some (.tup [.int i, .int c])) (hc : c < 0) : Odd1 n H (.ref t)
  | bl {t : Addr} {i : Int} {b : Bool} (h : H t = some (.tup [.int i, .bl b])) : Odd1 n H (.ref t)
  | lst {t : Addr} {xs : List V} (h : H t = some (.lst xs)) (hn : t ≠ n) : Odd1 n H (.ref t)
theorem odd_st {n : Addr} : St1 (Odd1 n) := fun H H' v e h => by
  cases h with
  | non => exact .non
  | one h => exact .one (e _ _ h)
  | low h hc => exact .low (e _ _ h) hc
  | bl h => exact .bl (e _ _ h)
  | lst h hn => exact .lst (e _ _ h) hn
theorem Odd1.hpv {n : Addr} {ys : List V} (hn : H n = some (.lst ys)) (h : Odd1 n H v) : HpV (fun b => if b = n then none else H b) v false := by
  have k : ∀ {t : Addr} {zs : List V}, H t = some (.tup zs) → (fun b => if b = n then none else H b) t = some (.tup zs) := fun {t zs} ht => by
    simp only
    rw [if_neg (fun z => by rw [z, hn] at ht; cases ht)]
    exact ht
  cases h with
  | non => exact .non
  | one h => exact .len (k h) (by simp)
  | low h hc =>
    rename_i t i c
    have := HpV.two (H := fun b => if b = n then none else H b) (k h) (.int i) (.int c)
    have e : (isN (.int i) && (isN (.int c) && ge0 (.int c))) = false := by
      show (true && (true && decide (0 ≤ c))) = false
      rw [decide_eq_false (by omega)]
      rfl
    rw [e] at this
    exact this
  | bl h => exact HpV.two (H := fun b => if b = n then none else H b) (k h) (.int _) (.bl _)
  | lst h hn2 => exact .lst (show (if _ = n then none else H _) = _ by rw [if_neg hn2]; exact h)
theorem sv_ix5 {i : Int} (s : St1 R) (h : VA tq σ H R 5) (hb : Ev tb σ H (.int i)) (h0 : 0 ≤ i) (h5 : i < 5) : SV (tOp (rIxT K) (tTup tq) tb) σ H R := fun H1 e Q q =>
  h H1 e _ fun vs H2 e2 hl hr => ⟨sz_of (by omega), fun p np => hb _ ((e.trans e2).trans (Ex.new np)) _ fun H3 e3 => by
    obtain ⟨j, rfl⟩ : ∃ j : Nat, i = (j : Int) := ⟨i.toNat, by omega⟩
    have hj : j < vs.length := by omega
    refine ⟨p, vs, j, vs[j], rfl, rfl, SqT.of (e3 _ _ upd_same), atI_nat (List.getElem?_eq_getElem hj), q _ H3 ((e2.trans (Ex.new np)).trans e3) (s _ _ _ ((Ex.new np).trans e3) (hr _ (List.getElem_mem hj)))⟩⟩
end

end Sp

set_option Elab.async false
set_option linter.all false
set_option maxRecDepth 100000
set_option maxHeartbeats 1000000
namespace Sp
open PySem L2 Mth
open Evl (Ex)
/-- a text so many times -/
def rMulS : R2 := fun x y H Q => ∃ (s : Str) (k : Int) (r : Str), x = .str s ∧ y = .int k ∧ 2 ≤ k ∧ k ≤ 1000 ∧ 0 < s.length ∧ s.length ≤ 1000 ∧ Str.mk (List.foldl (fun x1 x2 => x1 ++ x2) #[] (List.replicate k.toNat s.cps)) = r ∧ r.length ≤ sizeLine ∧ Q (.str r) H
open PyProof PyProof.Rows in
theorem op_mulStr {X : Cx} : OpR X (binaryOp .Mult) rMulS := by
  intro pins s σ H x y v u Q I rx ry h
  obtain ⟨t, k, r, rfl, rfl, h1, h2, h3, h4, rfl, h5, q⟩ := h
  obtain ⟨tk, rfl⟩ := rx
  obtain ⟨tk2, rfl⟩ := ry
  refine wpAny_binaryOp_repeat (T := "str") (U := "int") (by decide) (fun s' => typeIs_str s' t tk) (fun s' => typeIs_int s' k tk2) noFill_str_mul F.fills_int_mul F.slot_int_rmul repeat_str F.slot_int_index.lookup
    (call_gives F.slot_int_rmul (typeIs_int s k tk2) F.entry_int_rmul (F.args_int_rmul_2 _ _) (AutoIntG1.int___rmul___int_str_0 k tk2 t tk) ⟨rfl, ?_⟩)
  refine call_gives F.slot_str_mul (typeIs_str s t tk) F.entry_str_mul (F.args_str_mul_2 _ _) (gives_str_mul t k tk tk2 ?_ ?_ ?_) ?_
  · rw [decide_eq_false (by omega), decide_eq_false (by omega)]
    rfl
  · intro _ _
    have : (1000 : Int) ≤ (2 ^ 63 - 1) / k := Int.le_ediv_of_mul_le (by omega) (by omega)
    omega
  · intro _ _
    have : t.length * k.toNat ≤ 1000 * 1000 := Nat.mul_le_mul h4 (by omega)
    unfold Builtin.Str.tooLong
    exact decide_eq_false (by rw [sizeLine_eq]; omega)
  · rw [if_neg (by omega), if_neg (by simp; omega)]
    exact ⟨h5, .str _, H, I.tok _, ⟨_, rfl⟩, q⟩
open Evl in
theorem e_nines {σ : L2.St} {H : Hp} : Ev (tOp rMulS (tC (.str "9")) (tC (.int 60))) σ H (.str "999999999999999999999999999999999999999999999999999999999999") := fun H1 e Q q =>
  ⟨"9", 60, _, rfl, rfl, by decide, by decide, by decide +kernel, by decide +kernel, by decide +kernel, by rw [sizeLine_eq]; decide +kernel, q H1 (Ex.refl _)⟩
section
open Evl
variable {K : PySem.W.Frag} {σ : L2.St} {H H' : Hp} {ta tb te to : TE} {tq tr : TA} {xs : List V} {qs ps : List P2} {a l n : Addr} {R : Hp → V → Prop} {m : Nat} {v : V} {D : Ends} {tz : TS}
theorem q_asgNW {i : Nat} (h : NW te σ H R m) (k : ∀ p H1 vs, H p = none → Ex H H1 → vs.length = m → (∀ v ∈ vs, ∃ Hm, Ex Hm H1 ∧ Hm p = none ∧ R Hm v) → H1 p = some (.lst vs) → tz D (σ.set i (some (.ref p))) H1) : tSeq (tAsg te (gName i)) tz D σ H := h H (Ex.refl H) _ k
theorem q_parNE {i j : Nat} (ha : NL ta σ H ps) (hb : ∀ H1, Ex H H1 → Ev tb σ H1 v) (k : ∀ p H1, Ex H H1 → PL H1 p ps → tz D ((σ.set i (some (.ref p))).set j (some v)) H1) : tSeq (tPar i j (tCons ta (tCons tb tNil))) tz D σ H :=
  ha H (Ex.refl H) _ fun p H1 _ e1 hp => hb H1 e1 H1 (Ex.refl _) _ fun H2 e2 => ⟨_, _, rfl, k p H2 (e1.trans e2) (hp.mono e2)⟩
theorem q_forR3 {L : Nat} {c : Int} {g : TG} {tu : TS} (hL : L ≤ 63) (h1 : 1 ≤ c) (h2 : c ≤ 20) (h : EvA tq σ H [.int 0, .int (L : Int), .int c]) (Pv : Nat → L2.St → Hp → Prop) (h0 : ∀ H1, Ex H H1 → Pv 0 σ H1)
    (hs : ∀ (i : Nat) (z : Int) σ' H', i < 63 → 0 ≤ z → z < L → Pv i σ' H' → g (.int z) σ' H' fun σ2 H2 => tu { D with nx := Pv (i + 1), ct := Pv (i + 1), bk := tz D } σ2 H2) (hd : ∀ i σ' H', i ≤ 63 → Pv i σ' H' → tz D σ' H') : tSeq (tFor (iRng3 tq) g tu) tz D σ H :=
  h H (Ex.refl H) _ fun H1 e1 => by
    have fits : ∀ i : Int, -1000 ≤ i → i ≤ 1000 → Builtin.Range.rangeFitsLong i = true := fun i h1 h2 => by
      unfold Builtin.Range.rangeFitsLong
      rw [Bool.and_eq_true, decide_eq_true_eq, decide_eq_true_eq]
      omega
    have q0 : 0 ≤ ((L : Int) - 0 - 1) / c ∨ L = 0 := by
      by_cases z : L = 0
      · exact .inr z
      · exact .inl (Int.ediv_nonneg (by omega) (by omega))
    have q1 : 0 < L → ((L : Int) - 0 - 1) / c ≤ (L : Int) - 1 := fun hp => by
      have := Int.ediv_le_self c (show (0 : Int) ≤ (L : Int) - 0 - 1 by omega)
      omega
    have q2 : ((L : Int) - 0 - 1) / c * c ≤ (L : Int) - 0 - 1 := Int.ediv_mul_le _ (by omega)
    have rs : Builtin.Range.rangeSize 0 (L : Int) c = if 0 < L then ((L : Int) - 0 - 1) / c + 1 else 0 := by
      unfold Builtin.Range.rangeSize
      rw [if_pos (by omega)]
      by_cases z : 0 < L
      · rw [if_pos (by omega), if_pos z]
      · rw [if_neg (by omega), if_neg z]
    generalize hk : ((L : Int) - 0 - 1) / c = k at *
    have rn : ∃ n : Nat, n ≤ 63 ∧ Builtin.Range.rangeSize 0 (L : Int) c = (n : Int) ∧ ∀ i : Nat, i < n → (i : Int) * c < L := by
      by_cases z : 0 < L
      · have q3 := q1 z
        refine ⟨(k + 1).toNat, by omega, by rw [rs, if_pos z]; omega, fun i hi => ?_⟩
        have : (i : Int) * c ≤ k * c := Int.mul_le_mul_of_nonneg_right (by omega) (by omega)
        omega
      · exact ⟨0, by omega, by rw [rs, if_neg z]; rfl, fun i hi => by omega⟩
    obtain ⟨n, hn, en, hi⟩ := rn
    refine ⟨0, (L : Int), c, n, rfl, ⟨by omega, by omega, ?_, en⟩, for_rangeC (lo := 0) (c := c) (n := n) Pv (h0 H1 e1) (fun i σ' H' hin hP => ?_) fun σ' H' hP => hd n σ' H' hn hP⟩
    · unfold Builtin.Range.small
      rw [en, fits 0 (by omega) (by omega), fits (L : Int) (by omega) (by omega), fits c (by omega) (by omega), fits (n : Int) (by omega) (by omega), if_pos (by omega), fits ((L : Int) + (c - 1)) (by omega) (by omega)]
      simp
    · have h3 := hi i hin
      have h4 : 0 ≤ (i : Int) * c := Int.mul_nonneg (by omega) (by omega)
      exact hs i (0 + (i : Int) * c) σ' H' (by omega) (by omega) (by omega) hP
theorem q_asgSV {i : Nat} (h : SV te σ H R) (k : ∀ v H1, Ex H H1 → R H1 v → tz D (σ.set i (some v)) H1) : tSeq (tAsg te (gName i)) tz D σ H := h H (Ex.refl H) _ k
theorem s_appSV (hl : H l = some (.lst xs)) (ho : Ev to σ H (.ref l)) (h : SV te σ H R) (hz : xs.length < 100000) (k : ∀ v H1, Ex H H1 → R H1 v → H1 l = some (.lst xs) → D.nx σ (upd H1 l (.lst (xs ++ [v])))) : tDrop (tBM K "list" rAppend to (tCons te tNil)) D σ H :=
  ho H (Ex.refl _) _ fun H1 e1 => ⟨.inl ⟨rfl, _, SqL.of (e1 _ _ hl)⟩, h H1 e1 _ fun v H2 e2 r => ⟨l, xs, v, rfl, rfl, (e1.trans e2) _ _ hl, sz_lt hz, k v H2 (e1.trans e2) r ((e1.trans e2) _ _ hl)⟩⟩
theorem sv_oddL {ys : List V} (hn : H n = some (.lst ys)) (h : EvA tq σ H xs) (hz : xs.length ≤ 1000) : SV (tLst tq) σ H (Odd1 n) := fun H1 e Q q =>
  h H1 e _ fun H2 e2 => ⟨sz_of (by omega), fun p np => q _ _ (e2.trans (Ex.new np)) (.lst upd_same fun z => by rw [z, (e.trans e2) _ _ hn] at np; cases np)⟩
theorem odd_pl {ys : List V} {vs : List V} (hn : H n = some (.lst ys)) (h : Tps H vs ps) : Paired (HpV (fun b => if b = n then none else H b)) vs (ps.map fun q => decide (0 ≤ q.2)) := by
  induction h with
  | nil => exact .nil
  | cons r t ih =>
    refine .cons (Tp.hpv ?_) ih
    obtain ⟨t, e1, e2⟩ := r
    exact ⟨t, e1, show (if t = n then none else H t) = _ by rw [if_neg (fun z => by rw [z, hn] at e2; cases e2)]; exact e2⟩
/-- heaps with something strange among them -/
theorem sv_odd {ys : List V} (hn : H n = some (.lst ys)) (h1 : NL ta σ H ps) (ht : Ev te σ H v) (ho : Odd1 n H v) (h2 : NL tb σ H qs) (hz : ps.length + qs.length ≤ 1000) : SV (tOp rCat (tOp rCat ta (tLst (tCons te tNil))) tb) σ H (BadN n) := fun H1 e Q q =>
  h1 H1 e _ fun p1 H2 np1 e2 hp1 => ht H2 (e.trans e2) _ fun H3 e3 => ⟨(by show 1 ≤ sizeLine; decide), fun p2 np2 => by
    have e4 := Ex.new (o := .lst [v]) np2
    obtain ⟨vs, a1, a2⟩ := hp1.mono (e3.trans e4)
    have lv := pr_len a2
    refine ⟨p1, p2, vs, [v], rfl, rfl, a1, upd_same, sz_of (by simp; omega), fun p3 np3 => ?_⟩
    have e5 := Ex.new (o := .lst (vs ++ [v])) np3
    refine h2 _ ((((e.trans e2).trans e3).trans e4).trans e5) _ fun p4 H6 np4 e6 hp4 => ?_
    obtain ⟨ws, b1, b2⟩ := hp4
    have lw := pr_len b2
    refine ⟨p3, p4, vs ++ [v], ws, rfl, rfl, e6 _ _ upd_same, b1, sz_of (by simp; omega), fun r nr => ?_⟩
    have e7 := Ex.new (o := .lst (vs ++ [v] ++ ws)) nr
    have eA := (((e2.trans e3).trans e4).trans e5).trans (e6.trans e7)
    refine q _ _ eA ?_
    have hn7 := (e.trans eA) _ _ hn
    have rn : r ≠ n := fun z => by
      have := ((((e.trans e2).trans e3).trans e4).trans (e5.trans e6)) _ _ hn
      rw [← z, nr] at this
      cases this
    refine ⟨fun b => if b = n then none else (upd H6 r (.lst (vs ++ [v] ++ ws))) b, fun b o hb => ?_, by simp, .inr ⟨r, vs ++ [v] ++ ws, (ps.map fun q => decide (0 ≤ q.2)) ++ [false] ++ (qs.map fun q => decide (0 ≤ q.2)), rfl, ?_, ?_, ?_⟩⟩
    · by_cases z : b = n
      · simp only [if_pos z] at hb; cases hb
      · simp only [if_neg z] at hb; exact hb
    · simp only [if_neg rn]
      exact upd_same
    · exact pr_app (pr_app (odd_pl hn7 (a2.mono (e5.trans (e6.trans e7)))) (.cons (Odd1.hpv hn7 (odd_st _ _ _ (e.trans eA) ho)) .nil)) (odd_pl hn7 (b2.mono e7))
    · simp⟩
/-- things that the way of asking refuses at each door -/
def ThL (te : TE) (σ : L2.St) (H : Hp) (spA : Sp) (Dc : Addr) (ds : List Int) : Prop := ∀ H1, Ex H H1 → ∀ Q : VK, (∀ p H2 xs, Ex H1 H2 → H2 p = some (.lst xs) → xs.length ≤ 1000 → (∀ x ∈ xs, ∀ d ∈ ds, Asks spA Dc H2 (.int d) x) → Q (.ref p) H2) → te σ H1 Q
theorem asks_h {CB : Addr} {d : Int} {x : V} (h : BadH H x) : Asks (spWH CB) CB H (.int d) x := fun H1 e Q E k => ⟨d, x, rfl, .inl (h.mono e), k⟩
theorem asks_g {CB : Addr} {x : V} (h : GreatH H x) : Asks (spWH CB) CB H (.int 4) x := fun H1 e Q E k => ⟨4, x, rfl, .inr ⟨rfl, h.mono e⟩, k⟩
theorem asks_p {CP : Addr} {d : Int} {x : V} (h : PV H x) (hn : isN x = false) : Asks (spWP CP) CP H (.int d) x := fun H1 e Q E k => ⟨d, x, rfl, h.mono e, hn, k⟩
theorem th_var {CB : Addr} {ds : List Int} (ha : Ev te σ H (.ref a)) (h : H a = some (.lst xs)) (hz : xs.length ≤ 1000) (hb : ∀ x ∈ xs, BadH H x) : ThL te σ H (spWH CB) CB ds := fun H1 e Q k =>
  ha H1 e _ fun H2 e2 => k a H2 xs e2 ((e.trans e2) _ _ h) hz fun x hx d _ => asks_h ((hb x hx).mono (e.trans e2))
theorem th_nw {CP : Addr} {ds : List Int} (h : NW te σ H (fun H v => PV H v ∧ isN v = false) m) (hz : m ≤ 1000) : ThL te σ H (spWP CP) CP ds := fun H1 e Q k =>
  h H1 e _ fun p H2 vs _ e2 hl hv hp => k p H2 vs e2 hp (by omega) fun x hx d _ => by
    obtain ⟨Hm, h1, _, h3, h4⟩ := hv x hx
    exact asks_p (h3.mono h1) h4
theorem ev_allC {fA Dc : Addr} {spA : Sp} {b1 b2 b3 : Bool} {te1 te2 te3 : TE} {ds : List Int} (h1 : EvL te1 σ H (ds.map V.int)) (h2 : ThL te2 σ H spA Dc ds) (h3 : EvL te3 σ H [.bl b1, .bl b2, .bl b3, .bl true]) :
    Ev (tCall (spAllT fA spA Dc b1 b2 b3) [] E0 (tCons (tC (.ref fA)) (tCons te1 (tCons te2 (tCons te3 tNil))))) σ H (.bl true) := fun H1 e Q q =>
  h1 H1 e _ fun p1 H2 _ e2 hp1 => h2 H2 (e.trans e2) _ fun p2 H3 xs e3 hx hl ha => h3 H3 ((e.trans e2).trans e3) _ fun p3 H4 _ e4 hp3 =>
    ⟨p1, p2, p3, ds, xs, rfl, (e3.trans e4) _ _ hp1, e4 _ _ hx, hl, hp3, fun d hd x hx => (ha x hx d hd).mono e4, fun H' e' => q H' (((e2.trans e3).trans e4).trans e')⟩
theorem el_rg5 : EvL (tLstRg (tRg1 (tC (.int 5)))) σ H (([0, 1, 2, 3, 4] : List Int).map V.int) := fun H1 e Q k => ⟨5, rfl, ⟨by decide, by decide, by decide, by decide, by decide⟩, fun q nq => k q _ nq (Ex.new nq) upd_same⟩
theorem pvn_st : St1 (fun H v => PV H v ∧ isN v = false) := fun _ _ _ e h => ⟨h.1.mono e, h.2⟩
theorem great_st : St1 GreatH := fun _ _ _ e h => h.mono e
theorem sv_nl (h : NL te σ H qs) (o : Ok qs) (hf : qs.all fitB = false) : SV te σ H GreatH := fun H1 e Q q => h H1 e _ fun p H2 _ e2 hp => q _ H2 e2 ⟨p, qs, rfl, hp, o, hf⟩
/-- for x in a written tuple of such -/
theorem q_forVA {j : Nat} {tu : TS} (s : St1 R) (h : VA tq σ H R m) (hz : m ≤ 1000) (Pv : L2.St → Hp → Prop) (hm : ∀ σ' H' H2, Ex H' H2 → Pv σ' H' → Pv σ' H2) (h0 : ∀ H1, Ex H H1 → Pv σ H1)
    (hx : ∀ v σ' H', R H' v → Pv σ' H' → tu { D with nx := fun σ2 H2 => Ex H' H2 ∧ Pv σ2 H2, ct := fun σ2 H2 => Ex H' H2 ∧ Pv σ2 H2, bk := tz D } (σ'.set j (some v)) H') (hd : ∀ σ' H', Pv σ' H' → tz D σ' H') : tSeq (tFor (iTup K (tTup tq)) (gName j) tu) tz D σ H :=
  h H (Ex.refl _) _ fun vs H1 e1 hl hr => ⟨sz_of (by omega), fun a na => ⟨a, rfl, ⟨vs, SqT.of upd_same⟩, by
    refine ⟨fun i m σ' H' => m = vs.length - i ∧ i ≤ vs.length ∧ H' a = some (.tup vs) ∧ (∀ v ∈ vs, R H' v) ∧ Pv σ' H', ⟨_, rfl, Nat.zero_le _, upd_same, fun v hv => s _ _ _ (Ex.new na) (hr v hv), h0 _ (e1.trans (Ex.new na))⟩, ?_⟩
    rintro i m σ' H' ⟨rfl, hi, hq, hv, p⟩
    by_cases hlt : i < vs.length
    · refine .inr ⟨⟨vs, vs[i], SqT.of hq, by simp [hlt]⟩, fun σ2 H2 => Ex H' H2 ∧ Pv σ2 H2, fun σ2 H2 ⟨e2, p2⟩ => ⟨vs.length - (i + 1), by omega, rfl, hlt, e2 _ _ hq, fun v hv2 => s _ _ _ e2 (hv v hv2), p2⟩, fun x H2 y => ?_⟩
      obtain ⟨e, y⟩ := y
      subst e
      exact hx x σ' _ (hv x (List.mem_of_getElem? (y vs (SqT.of hq)))) p
    · have e : i = vs.length := by omega
      exact .inl ⟨⟨vs, SqT.of hq, by omega⟩, hd σ' H' p⟩⟩⟩
end

end Sp

set_option Elab.async false
set_option linter.all false
set_option maxRecDepth 100000
set_option maxHeartbeats 1000000
namespace Sp
open PySem L2 Mth
open Evl (Ex)
section
variable {P : Program} {w : World} {K : PySem.W.Frag} {mg : Str → Option Value} {base : Heap}
/-! one text that is written -/
def spCheckG : Sp := fun vs H Q _ => ∃ a ps, vs = [.ref a] ∧ PL H a ps ∧ Ok ps ∧ ∀ H', Ex H H' → Q .non H'
open Evl in
theorem okCheckG {f fN : Addr} {fd fdN : FuncData} (F : Fun K "check_heaps" "check_heaps" sCheckHeaps f fd) (cHeap : Cl P w K mg base "is_heap" 2 ["value"] spHeap fN fdN) (m : Ms mg) : FnOk P w K mg base CX0 3 f fd ["heaps"] spCheckG := by
  refine F.ok scCheckHeaps (fun vs H Q E h => ?_) (fun cdv A outer s H vs Q E hr h => ?_)
  · obtain ⟨a, ps, rfl, _⟩ := h
    rfl
  · obtain ⟨a, ps, rfl, hl, ho, k⟩ := h
    have nd := scCheckHeaps.nd
    refine ⟨_, (pss_cons (ps_if (pt_not (pt_val (pe_callB call_isi (by rfl) m.isinstance_ (by decide +kernel) (pa_cons (pv 0) (pa_cons (pe_bltn (v := .ty "list") (by rfl) m.list_ (by decide +kernel) rfl) pa_nil)))))
      (pss_one ps_never)
      pss_nil)
    (pss_one (ps_for PassesOwn.never rfl (pi_list (pv 0)) (pg_name (i := 1) nd rfl (by first | exact Or.inl rfl | exact Or.inr rfl))
      (pss_one (ps_if (pt_not (pt_val (pe_call cHeap.F (hr.mono (by decide)) (by rfl) cHeap.g cHeap.kp cHeap.b .nil pass0 (pa_cons (pv 1) pa_nil))))
        (pss_one ps_never)
        pss_nil))))), ?_⟩
    obtain ⟨xs, ha, hp⟩ := hl
    refine q_when (b := false) (et_is (et_not (et_B (e_isi (b := true) (ev_var rfl) ev_c (.ty _) (fun H1 e => .base (.lst (e _ _ ha))) (kit_ty (by decide +kernel))))) rfl) (fun z => nomatch z) fun _ H1 e1 => ?_
    refine s_forL (ev_var rfl) (e1 _ _ ha) (fun i σ H' => ∃ o, σ = [some (.ref a), o] ∧ Ex H H') (fun H2 e2 => ⟨_, rfl, e1.trans e2⟩) (fun i σ' H' ⟨_, _, e⟩ => e _ _ ha) (fun i x σ' H2 hi hP => ?_) fun σ' H2 hP => ?_
    · obtain ⟨o, rfl, e2⟩ := hP
      obtain ⟨q, hq, tq⟩ := pr_get hp hi
      unfold gName
      refine s_when (b := false) (et_is (et_not (et_B (ev_heap (ea_cons (ev_var rfl) ea_nil) ((Tp.hpv tq).mono e2)))) (by rw [decide_eq_true (ho q (List.mem_of_getElem? hq))]; rfl)) (fun z => nomatch z) fun _ H3 e3 => ⟨_, rfl, e2.trans e3⟩
    · obtain ⟨o, rfl, e2⟩ := hP
      exact k H2 e2
def v9 : Int := 1 - 10 ^ (60 : Int).toNat
def txt9 : Str := "-999999999999999999999999999999999999999999999999999999999999:0"
def spWr9 : Sp := fun vs H Q _ => ∃ a, vs = [.ref a] ∧ PL H a [(v9, 0)] ∧ ∀ H', Ex H H' → Q (.str txt9) H'
open Evl in
theorem e_word9 {σ : L2.St} {H : Hp} {i j : Nat} (hi : σ[i]? = some (some (.int v9))) (hj : σ[j]? = some (some (.int 0))) : Ev (fun σ H Q => tJs [tFmt (tVar i), tC (.str ":"), tFmt (tVar j)] Str.empty σ H fun out H1 => Q (.str out) H1) σ H (.str txt9) := fun H1 e Q q => by
  refine ⟨_, hi, .inr ⟨v9, rfl, by decide +kernel, _, rfl, by rw [sizeLine_eq]; decide +kernel, _, rfl, by rw [sizeLine_eq]; decide +kernel, _, hj, .inr ⟨0, rfl, by decide +kernel, _, rfl, by rw [sizeLine_eq]; decide +kernel, ?_⟩⟩⟩
  have e9 : (Str.empty ++ (Str.ofString (toString v9)) ++ (":" : Str) ++ (Str.ofString (toString (0 : Int))) : Str) = txt9 := by decide +kernel
  have := q H1 (Ex.refl _)
  rw [← e9] at this
  exact this
open Evl in
theorem e_join1 {σ : L2.St} {H : Hp} {te : TE} {x : Str} (h : EvL te σ H [.str x]) (hz : x.length ≤ 1000) : Ev (tM1 (fun x xs H Q => ∃ a p ys, x = .str a ∧ xs = [.ref p] ∧ (SqL K H p (ys.map V.str) ∨ SqT K H p (ys.map V.str)) ∧ (ys.map fun x => x.length).sum + ys.length * a.length ≤ 16777216 ∧ Q (.str (Txt.join a ys)) H) (tC (.str " ")) te) σ H (.str x) := fun H1 e Q q =>
  ⟨⟨_, rfl⟩, h H1 e _ fun p H2 _ e2 hp => ⟨" ", p, [x], rfl, rfl, .inl (SqL.of hp), by
    have : (" " : Str).length = 1 := by decide +kernel
    rw [this]
    simp
    omega, by
    have : Txt.join " " [x] = x := rfl
    rw [this]
    exact q H2 e2⟩⟩
open Evl in
theorem okWr9 {f fC fF : Addr} {fd fdC fdF : FuncData} (F : Fun K "written" "written" sWritten f fd) (cCheck : Cl P w K mg base "check_heaps" 3 ["heaps"] spCheckG fC fdC) (cFits : Cl P w K mg base "fits" 1 ["number"] spFits fF fdF) (m : Ms mg) : FnOk P w K mg base CX0 4 f fd ["heaps"] spWr9 := by
  refine F.ok scWritten (fun vs H Q E h => ?_) (fun cdv A outer s H vs Q E hr h => ?_)
  · obtain ⟨a, rfl, _⟩ := h
    rfl
  · obtain ⟨a, rfl, hl, k⟩ := h
    have nd := scWritten.nd
    refine ⟨_, (pss_cons (ps_expr (pe_call cCheck.F (hr.mono (by decide)) (by rfl) cCheck.g cCheck.kp cCheck.b .nil pass0 (pa_cons (pv 0) pa_nil)))
    (pss_cons (ps_for PassesOwn.never rfl (pi_list (pv 0)) (pg_tup (by rfl) (pgs_cons (pg_name (i := 1) nd rfl (by first | exact Or.inl rfl | exact Or.inr rfl)) (pgs_cons (pg_name (i := 2) nd rfl (by first | exact Or.inl rfl | exact Or.inr rfl)) pgs_nil)))
      (pss_one (ps_if (PW.pt (pw_or (pt_not (pt_val (pe_call cFits.F (hr.mono (by decide)) (by rfl) cFits.g cFits.kp cFits.b .nil pass0 (pa_cons (pv 1) pa_nil)))) (pw_or1 (pt_not (pt_val (pe_call cFits.F (hr.mono (by decide)) (by rfl) cFits.g cFits.kp cFits.b .nil pass0 (pa_cons (pv 2) pa_nil)))))))
        (pss_one ps_never)
        pss_nil)))
    (pss_cons (ps_if (pt_cmpR op_eq (pe_callB call_len_seq (by rfl) m.len_ PySem.boot_len (pa_cons (pv 0) pa_nil)) pe_int (nomark _))
      (pss_one ps_never)
      pss_nil)
    (pss_one (ps_ret (pe_join pe_str (pe_lc (own := [("place", 1), ("count", 2)]) (g := (gTup K 2 (gCons (gName 1) (gCons (gName 2) gNil)))) rfl nd (pi_list (pv 0)) (blkOk_by (own := [("place", 1), ("count", 2)]) (N := nWritten) (sc := defScope sWritten) (by decide +kernel)) (fun _ _ _ _ _ => (pg_tup (by rfl) (pgs_cons (pg_name (i := 1) nd rfl (by first | exact Or.inl rfl | exact Or.inr rfl)) (pgs_cons (pg_name (i := 2) nd rfl (by first | exact Or.inl rfl | exact Or.inr rfl)) pgs_nil)))) (fun _ _ _ _ _ => pts_nil) (fun _ _ _ _ _ => (pe_joined (PJ.cons (pe_fmt (pv 1)) (PJ.cons pe_str (PJ.cons (pe_fmt (pv 2)) PJ.nil)))))))))))), ?_⟩
    have o9 : Ok [(v9, (0 : Int))] := fun x hx => by rcases List.mem_singleton.mp hx with rfl; decide
    refine ⟨_, rfl, a, _, rfl, hl, o9, fun H1 e1 => ?_⟩
    obtain ⟨vs, h1, h2⟩ := hl.mono e1
    refine q_forL (K := K) (a := a) (xs := vs) (ev_var rfl) (sq_of h1) (fun i σ H' => ∃ o1 o2, σ = [some (.ref a), o1, o2] ∧ Ex H1 H') (fun H2 e2 => ⟨_, _, rfl, e2⟩) (fun i σ' H' _ ⟨_, _, _, e⟩ => SqL.of (e _ _ h1)) (fun i x σ' H2 hi hP => ?_) fun σ' H2 hP => ?_
    · obtain ⟨o1, o2, rfl, e2⟩ := hP
      obtain ⟨q, hq, tq⟩ := pr_get h2 hi
      rcases List.mem_singleton.mp (List.mem_of_getElem? hq) with rfl
      refine g_pair (tq.mono e2) ?_
      refine s_when (b := false) (et_or (a := false) (b := false) (et_is (et_not (et_B (ev_fits (ea_cons (ev_var rfl) ea_nil)))) (by decide +kernel)) fun _ => et_is (et_not (et_B (ev_fits (ea_cons (ev_var rfl) ea_nil)))) (by decide +kernel)) (fun z => nomatch z) fun _ H3 e3 => ⟨_, _, rfl, e2.trans e3⟩
    · obtain ⟨o1, o2, rfl, e2⟩ := hP
      have hl2 := (hl.mono e1).mono e2
      refine q_when (b := false) (et_is (e_eqi (e_lenP (ev_var rfl) hl2) ev_c) rfl) (fun z => nomatch z) fun _ H3 e3 => ?_
      have hl3 := hl2.mono e3
      refine s_ret (e_join1 (x := txt9) (el_is (lcP_all (g := fun _ => .str txt9) (fun _ _ => rfl) (sl_of (ev_var rfl) hl3) (by simp) (fun q hq H4 e4 => by
        rcases List.mem_singleton.mp hq with rfl
        exact e_word9 rfl rfl)) rfl) (by decide +kernel)) fun H4 e4 => k H4 (((e1.trans e2).trans e3).trans e4)
end

end Sp

set_option Elab.async false
set_option linter.all false
set_option maxRecDepth 100000
set_option maxHeartbeats 1000000
namespace Sp
open PySem L2 Mth
open Evl (Ex)
section
variable {P : Program} {w : World} {K : PySem.W.Frag} {mg : Str → Option Value} {base : Heap}
/-! what the law draws -/
abbrev nLawCellAt : List Str := ["_law_script", "_law_k"]
theorem scLawCellAt : FnScope ["_law_script", "_law_k"] ["_law_script", "_law_k"] (defScope sLawCellAt) := ⟨rfl, rfl, rfl, by decide +kernel, rfl, by decide +kernel, by decide +kernel⟩
def spCellAt (K : PySem.W.Frag) : Sp := fun vs H Q _ => ∃ (a : Addr) (ns : List Int) (k : Int), vs = [.ref a, .int k] ∧ SqL K H a (ns.map V.int) ∧ 0 ≤ k ∧ Q (.int (cellF ns k)) H
theorem okCellAt {f : Addr} {fd : FuncData} (F : Fun K "_law_cell_at" "_law_cell_at" sLawCellAt f fd) (m : Ms mg) : FnOk P w K mg base CX0 1 f fd ["_law_script", "_law_k"] (spCellAt K) := by
  refine F.ok scLawCellAt (fun vs H Q E h => ?_) (fun cdv A outer s H vs Q E hr h => ?_)
  · obtain ⟨a, ns, k, rfl, _⟩ := h
    rfl
  · obtain ⟨a, ns, i, rfl, ha, h0, k⟩ := h
    refine ⟨_, (pss_cons (ps_if (pt_cmpR op_lt (pv 1) (pe_callB call_len_seq (by rfl) m.len_ PySem.boot_len (pa_cons (pv 0) pa_nil)) (nomark _))
      (pss_one (ps_ret (pe_ix (r := rIxL K) ix_list (pv 0) (pv 1) (fun _ _ => rfl))))
      pss_nil)
    (pss_one (ps_ret pe_int))), ?_⟩
    refine z_if (b := decide (i < (ns.length : Int))) (a_val (v_lt (val_var rfl) fun Q q => ⟨_, rfl, a, _, rfl, .inl ha, by rw [List.length_map]; exact q⟩)) (fun c => ?_) fun c => ?_
    · have c := of_decide_eq_true c
      obtain ⟨j, rfl⟩ : ∃ j : Nat, i = (j : Int) := ⟨i.toNat, by omega⟩
      refine z_ret (v_lstq (val_var rfl) (val_var rfl) ha (v := .int (cellF ns j)) (atI_nat ?_)) k
      unfold cellF
      rw [List.getElem?_map, Int.toNat_natCast, List.getD_eq_getElem?_getD, List.getElem?_eq_getElem (show j < ns.length by omega)]
      rfl
    · have c := of_decide_eq_false c
      have e : cellF ns i = 0 := by
        unfold cellF
        rw [List.getD_eq_getElem?_getD, List.getElem?_eq_none (by omega)]
        rfl
      rw [e] at k
      exact k
abbrev nLawDraw : List Str := ["_law_cell", "_law_k", "_law_many", "_law_primes"]
theorem scLawDraw : FnScope ["_law_cell", "_law_k", "_law_many", "_law_primes"] ["_law_cell", "_law_k", "_law_many"] (defScope sLawDraw) := ⟨rfl, rfl, rfl, by decide +kernel, rfl, by decide +kernel, by decide +kernel⟩
def spDraw : Sp := fun vs H Q _ => ∃ c k n : Int, vs = [.int c, .int k, .int n] ∧ 0 < n ∧ ∀ H', Ex H H' → Q (.int (drawF c k n)) H'
theorem okDraw {f : Addr} {fd : FuncData} (F : Fun K "_law_draw" "_law_draw" sLawDraw f fd) : FnOk P w K mg base CX0 1 f fd ["_law_cell", "_law_k", "_law_many"] spDraw := by
  refine F.ok scLawDraw (fun vs H Q E h => ?_) (fun cdv A outer s H vs Q E hr h => ?_)
  · obtain ⟨c, k, n, rfl, _⟩ := h
    rfl
  · obtain ⟨c, i, n, rfl, h0, k⟩ := h
    have nd := scLawDraw.nd
    refine ⟨_, (pss_cons (ps_set (i := 3) nd rfl (by first | exact Or.inl rfl | exact Or.inr rfl) (pe_tup (pa_cons pe_int (pa_cons pe_int (pa_cons pe_int (pa_cons pe_int (pa_cons pe_int (pa_cons pe_int (pa_cons pe_int (pa_cons pe_int (pa_cons pe_int (pa_cons pe_int (pa_cons pe_int (pa_cons pe_int (pa_cons pe_int (pa_cons pe_int (pa_cons pe_int (pa_cons pe_int pa_nil))))))))))))))))))
    (pss_one (ps_ret (pe_op op_mod (pe_op op_mod (pe_op op_add (pe_op op_mul (pv 0) pe_int) (pe_op op_mul (pv 1) pe_int)) (pe_ix (r := rIxT K) ix_tup (pv 3) (pe_op op_mod (pv 1) pe_int) (fun _ _ => rfl))) (pv 2))))), ?_⟩
    refine ⟨(by show 16 ≤ sizeLine; decide), fun t nt => ?_⟩
    obtain ⟨p, hp, p0, ep⟩ := prime_at i
    have := k (upd H t (.tup (primes.map V.int))) (Evl.Ex.new nt)
    unfold drawF at this
    rw [← ep] at this
    refine z_ret (v := .int ((c * 48271 + i * 69621) % p % n)) (v_mod (v_mod (v_add (v_mul (val_var rfl) val_c (mulR (by decide))) (v_mul (val_var rfl) val_c (mulR (by decide))))
      (v_tup (a := t) (val_var rfl) (v_mod (val_var rfl) val_c (by decide)) upd_same hp) p0) (val_var rfl) h0) ?_
    exact this
theorem ev_draw {σ : L2.St} {H : Hp} {ta : TA} {c k n : Int} (h : Evl.EvA ta σ H [.int c, .int k, .int n]) (h0 : 0 < n) : Evl.Ev (tCall spDraw [] E0 ta) σ H (.int (drawF c k n)) :=
  Evl.ev_call h fun H1 _ _ q _ => ⟨c, k, n, rfl, h0, fun H' e => q H' e⟩
theorem ev_cell {σ : L2.St} {H : Hp} {ta : TA} {a : Addr} {ns : List Int} {k : Int} (h : Evl.EvA ta σ H [.ref a, .int k]) (ha : SqL K H a (ns.map V.int)) (h0 : 0 ≤ k) : Evl.Ev (tCall (spCellAt K) [] E0 ta) σ H (.int (cellF ns k)) :=
  Evl.ev_call h fun H1 e _ q _ => ⟨a, ns, k, rfl, Evl.ex_l e ha, h0, q H1 (Evl.Ex.refl _)⟩
theorem cell_nat (ns : List Int) (i : Nat) (h : i < ns.length) : (ns.map V.int)[i]? = some (.int (cellF ns i)) := by
  unfold cellF
  rw [List.getElem?_map, Int.toNat_natCast, List.getD_eq_getElem?_getD, List.getElem?_eq_getElem h]
  rfl
abbrev nLawHeaps : List Str := ["_law_script", "_law_found", "_law_k", "_law_most", "_law_wide"]
theorem scLawHeaps : FnScope ["_law_script", "_law_found", "_law_k", "_law_most", "_law_wide"] ["_law_script"] (defScope sLawHeaps) := ⟨rfl, rfl, rfl, by decide +kernel, rfl, by decide +kernel, by decide +kernel⟩
def spHeaps (K : PySem.W.Frag) : Sp := fun vs H Q _ => ∃ (a : Addr) (ns : List Int), vs = [.ref a] ∧ SqL K H a (ns.map V.int) ∧ ns.length ≤ 63 ∧ ∀ H' l, Ex H H' → H l = none → PL H' l (heapsF ns) → Q (.ref l) H'
theorem okHeaps {f fC fD : Addr} {fd fdC fdD : FuncData} (F : Fun K "_law_heaps" "_law_heaps" sLawHeaps f fd) (cCell : Cl P w K mg base "_law_cell_at" 1 ["_law_script", "_law_k"] (spCellAt K) fC fdC) (cDraw : Cl P w K mg base "_law_draw" 1 ["_law_cell", "_law_k", "_law_many"] spDraw fD fdD) (m : Ms mg) :
    FnOk P w K mg base CX0 2 f fd ["_law_script"] (spHeaps K) := by
  refine F.ok scLawHeaps (fun vs H Q E h => ?_) (fun cdv A outer s H vs Q E hr h => ?_)
  · obtain ⟨a, ns, rfl, _⟩ := h
    rfl
  · obtain ⟨a, ns, rfl, ha, hlen, k⟩ := h
    have nd := scLawHeaps.nd
    refine ⟨_, (pss_cons (ps_set (i := 1) nd rfl (by first | exact Or.inl rfl | exact Or.inr rfl) (pe_lst pa_nil))
    (pss_cons (ps_if (pt_cmpR op_eq (pe_op op_mod (pe_callB call_len_seq (by rfl) m.len_ PySem.boot_len (pa_cons (pv 0) pa_nil)) pe_int) pe_int (nomark _))
      (pss_cons (ps_for PassesOwn.never rfl (pi_range3 (by rfl) m.range_ (pa_cons pe_int (pa_cons (pe_callB call_len_seq (by rfl) m.len_ PySem.boot_len (pa_cons (pv 0) pa_nil)) (pa_cons pe_int pa_nil)))) (pg_name (i := 2) nd rfl (by first | exact Or.inl rfl | exact Or.inr rfl))
        (pss_one (ps_expr (pe_bm PySem.F.plainAttrs_list PySem.F.slot_list_append PySem.F.type_list_append mt_append (pv 1) (pa_cons (pe_tup (pa_cons (pe_op op_mulW (pe_op op_mod (pe_op op_fdiv (pe_ix (r := rIxL K) ix_list (pv 0) (pv 2) (fun _ _ => rfl)) pe_int) (pe_op op_pow pe_int pe_int)) (pe_op op_sub pe_int (pe_op op_mul (pe_op op_mod (pe_ix (r := rIxL K) ix_list (pv 0) (pv 2) (fun _ _ => rfl)) pe_int) pe_int))) (pa_cons (pe_op op_mod (pe_ix (r := rIxL K) ix_list (pv 0) (pe_op op_add (pv 2) pe_int) (fun _ _ => rfl)) (pe_op op_pow pe_int pe_int)) pa_nil))) pa_nil)))))
      (pss_one (ps_ret (pv 1))))
      pss_nil)
    (pss_cons (ps_set (i := 3) nd rfl (by first | exact Or.inl rfl | exact Or.inr rfl) (pe_ix (r := rIxT K) ix_tup (pe_tup (pa_cons pe_int (pa_cons pe_int (pa_cons pe_int (pa_cons pe_int pa_nil))))) (pe_call cDraw.F (hr.mono (by decide)) (by rfl) cDraw.g cDraw.kp cDraw.b .nil pass0 (pa_cons (pe_call cCell.F (hr.mono (by decide)) (by rfl) cCell.g cCell.kp cCell.b .nil pass0 (pa_cons (pv 0) (pa_cons pe_int pa_nil))) (pa_cons pe_int (pa_cons pe_int pa_nil)))) (fun _ _ => rfl)))
    (pss_cons (ps_set (i := 4) nd rfl (by first | exact Or.inl rfl | exact Or.inr rfl) (pe_ix (r := rIxT K) ix_tup (pe_tup (pa_cons pe_int (pa_cons pe_int (pa_cons pe_int (pa_cons pe_int pa_nil))))) (pe_call cDraw.F (hr.mono (by decide)) (by rfl) cDraw.g cDraw.kp cDraw.b .nil pass0 (pa_cons (pe_call cCell.F (hr.mono (by decide)) (by rfl) cCell.g cCell.kp cCell.b .nil pass0 (pa_cons (pv 0) (pa_cons pe_int pa_nil))) (pa_cons pe_int (pa_cons pe_int pa_nil)))) (fun _ _ => rfl)))
    (pss_cons (ps_for PassesOwn.never rfl (pi_range1 (by rfl) m.range_ (pa_cons (pe_callB call_len_seq (by rfl) m.len_ PySem.boot_len (pa_cons (pv 0) pa_nil)) pa_nil)) (pg_name (i := 2) nd rfl (by first | exact Or.inl rfl | exact Or.inr rfl))
      (pss_one (ps_expr (pe_bm PySem.F.plainAttrs_list PySem.F.slot_list_append PySem.F.type_list_append mt_append (pv 1) (pa_cons (pe_tup (pa_cons (pe_op op_sub (pe_call cDraw.F (hr.mono (by decide)) (by rfl) cDraw.g cDraw.kp cDraw.b .nil pass0 (pa_cons (pe_ix (r := rIxL K) ix_list (pv 0) (pv 2) (fun _ _ => rfl)) (pa_cons (pe_op op_add (pe_op op_mod (pv 2) pe_int) pe_int) (pa_cons (pv 4) pa_nil)))) (pe_op op_fdiv (pv 4) pe_int)) (pa_cons (pe_call cDraw.F (hr.mono (by decide)) (by rfl) cDraw.g cDraw.kp cDraw.b .nil pass0 (pa_cons (pe_ix (r := rIxL K) ix_list (pv 0) (pv 2) (fun _ _ => rfl)) (pa_cons (pe_op op_add (pe_op op_mod (pv 2) pe_int) pe_int) (pa_cons (pv 3) pa_nil)))) pa_nil))) pa_nil)))))
    (pss_one (ps_ret (pv 1)))))))), ?_⟩
    refine ⟨Nat.zero_le _, fun l nl => ?_⟩
    have e0 : Ex H (upd H l (.lst [])) := Evl.Ex.new nl
    have ha0 := Evl.ex_l e0 ha
    have hl0 : (ns.map V.int).length = ns.length := List.length_map ..
    refine z_if (b := decide (((ns.length : Nat) : Int) % 2 = 0)) (a_val (v_is (v_eqi (v_mod (v_len (val_var rfl) ha0) val_c (by decide)) val_c) (by rw [hl0]))) (fun c => ?_) fun c => ?_
    · have c : ns.length % 2 = 0 := by have := of_decide_eq_true c; omega
      have eF : heapsF ns = (List.range (ns.length / 2)).map (evenH ns) := by unfold heapsF; rw [if_pos c]
      rw [eF] at k
      refine ⟨_, rfl, a, _, rfl, .inl ha0, 0, (ns.length : Int), 2, ns.length / 2, (by rw [hl0]), ⟨by decide, by decide, ?_, ?_⟩, for_rangeC (lo := 0) (c := 2) (n := ns.length / 2)
        (fun i σ H' => ∃ o2 o3 o4, σ = [some (.ref a), some (.ref l), o2, o3, o4] ∧ Ex H H' ∧ PL H' l ((List.range i).map (evenH ns))) ⟨none, none, none, rfl, e0, [], upd_same, .nil⟩ ?_ ?_⟩
      · have fits : ∀ i : Int, -100 ≤ i → i ≤ 100 → Builtin.Range.rangeFitsLong i = true := fun i h1 h2 => by
          unfold Builtin.Range.rangeFitsLong
          rw [Bool.and_eq_true, decide_eq_true_eq, decide_eq_true_eq]
          omega
        unfold Builtin.Range.small
        rw [PyProof.Rows.rangeSize_pos (by decide) (by omega), fits 0 (by decide) (by decide), fits (ns.length : Int) (by omega) (by omega), fits 2 (by decide) (by decide), fits (((ns.length : Int) + 2 - 1) / 2) (by omega) (by omega), if_pos (by decide), fits ((ns.length : Int) + (2 - 1)) (by omega) (by omega)]
        rw [Bool.or_true]
        rfl
      · rw [PyProof.Rows.rangeSize_pos (by decide) (by omega)]
        omega
      · rintro i σ H' hi ⟨o2, o3, o4, rfl, e, vs, hl, ht⟩
        have ha1 := Evl.ex_l e ha
        have h2i : 2 * i + 1 < ns.length := by omega
        have ei : (0 : Int) + ((i : Nat) : Int) * 2 = ((2 * i : Nat) : Int) := by omega
        have ei1 : ((2 * i : Nat) : Int) + 1 = ((2 * i + 1 : Nat) : Int) := by omega
        have lv := pr_len ht
        rw [List.length_map, List.length_range] at lv
        show tDrop _ _ ([some (.ref a), some (.ref l), some (.int ((0 : Int) + ((i : Nat) : Int) * 2)), o3, o4]) H'
        rw [ei]
        have c1 : ∀ H2, Ex H' H2 → Evl.Ev (tOp (rIxL K) (tVar 0) (tVar 2)) [some (.ref a), some (.ref l), some (.int ((2 * i : Nat) : Int)), o3, o4] H2 (.int (cellF ns ((2 * i : Nat) : Int))) := fun H2 e2 =>
          Evl.ev_op (Evl.ev_var rfl) (Evl.ev_var rfl) (Evl.rv_ixL (Evl.ex_l e2 ha1) (atI_nat (cell_nat ns _ (by omega))))
        have c2 : ∀ H2, Ex H' H2 → Evl.Ev (tOp (rIxL K) (tVar 0) (tOp (rI0 fun i j => V.int (i + j)) (tVar 2) (tC (.int 1)))) [some (.ref a), some (.ref l), some (.int ((2 * i : Nat) : Int)), o3, o4] H2 (.int (cellF ns ((2 * i + 1 : Nat) : Int))) := fun H2 e2 =>
          Evl.ev_op (Evl.ev_var rfl) (e_add (Evl.ev_var rfl) Evl.ev_c) (Evl.rv_ixL (Evl.ex_l e2 ha1) (by rw [ei1]; exact atI_nat (cell_nat ns _ (by omega))))
        have r0 := Evl.Ex.refl H'
        obtain ⟨q1, q2, q3⟩ := evenH_ok ns i
        refine ⟨_, rfl, .inl ⟨rfl, _, SqL.of hl⟩, ?_⟩
        refine np_pair (p := evenH ns i) (ev_is2 (e_mulW (e_mod (e_div (c1 H' r0) Evl.ev_c ⟨by decide, by decide⟩) (e_pow Evl.ev_c Evl.ev_c ⟨by decide, by decide, by decide⟩) (by decide))
            (e_sub Evl.ev_c (e_mul (e_mod (c1 H' r0) Evl.ev_c (by decide)) Evl.ev_c (mulR (by decide)))) ?_) ?_)
          (ev_is2 (e_mod (c2 H' r0) (e_pow Evl.ev_c Evl.ev_c ⟨by decide, by decide, by decide⟩) (by decide)) ?_) H' r0 _ fun v H2 e2 tv => ?_
        · refine Bd.mulw (a := 200) (b := 200) ?_ ?_ (by decide) (by decide) (by decide)
          · have p0 : (0 : Int) < 10 ^ 40 := by decide
            have b1 := Int.emod_nonneg (cellF ns ((2 * i : Nat) : Int) / 2) (show (10 : Int) ^ 40 ≠ 0 by decide)
            have b2 := Int.emod_lt_of_pos (cellF ns ((2 * i : Nat) : Int) / 2) p0
            show (cellF ns ((2 * i : Nat) : Int) / 2 % (10 ^ 40)).natAbs < 2 ^ 200
            rw [two200]
            rw [ten40] at b1 b2 ⊢
            omega
          · show (1 - cellF ns ((2 * i : Nat) : Int) % 2 * 2).natAbs < 2 ^ 200
            rw [two200]
            omega
        · rfl
        · rfl
        · refine ⟨l, vs, v, rfl, rfl, e2 _ _ hl, Nat.lt_of_le_of_lt (show vs.length ≤ 63 by omega) (by decide), ?_⟩
          refine ⟨_, _, _, rfl, Evl.Ex.mut (e.trans e2) nl, vs ++ [v], upd_same, ?_⟩
          rw [List.range_succ, List.map_append]
          exact pr_app ((ht.mono e2).upd (e2 _ _ hl)) (.cons (tv.upd (e2 _ _ hl)) .nil)
      · rintro σ H' ⟨o2, o3, o4, rfl, e, hl⟩
        exact ⟨_, rfl, k H' l e nl hl⟩
    · have c : ¬ ns.length % 2 = 0 := by have := of_decide_eq_false c; omega
      have eF : heapsF ns = (List.range ns.length).map (oddH ns) := by unfold heapsF; rw [if_neg c]
      rw [eF] at k
      have n0 : 0 < ns.length := by omega
      obtain ⟨w1, w2⟩ := wide4_pos (drawF_lo (c := cellF ns 1) (k := 7) (m := 4) (by decide)) (drawF_hi (by decide))
      obtain ⟨m1, m2⟩ := most4_pos (drawF_lo (c := cellF ns 0) (k := 6) (m := 4) (by decide)) (drawF_hi (by decide))
      -- most, wide
      refine ⟨(by show 4 ≤ sizeLine; decide), fun t nt => ?_⟩
      have e1 : Ex H _ := e0.trans (Evl.Ex.new (o := .tup [.int 3, .int 20, .int 1000000, .int 5]) nt)
      refine ev_draw (Evl.ea_cons (ev_cell (Evl.ea_cons (Evl.ev_var rfl) (Evl.ea_cons Evl.ev_c Evl.ea_nil)) (Evl.ex_l e1 ha) (by decide)) (Evl.ea_cons Evl.ev_c (Evl.ea_cons Evl.ev_c Evl.ea_nil))) (by decide) _ (Evl.Ex.refl _) _ fun H2 e2 => ?_
      refine ⟨t, _, _, .int (most4 (drawF (cellF ns 0) 6 4)), rfl, rfl, SqT.of (e2 _ _ upd_same), four_at [3, 20, 1000000, 5] rfl (drawF_lo (by decide)) (drawF_hi (by decide)), ?_⟩
      refine ⟨(by show 4 ≤ sizeLine; decide), fun t2 nt2 => ?_⟩
      have e3 : Ex H _ := (e1.trans e2).trans (Evl.Ex.new (o := .tup [.int 5, .int 60, .int 1000000, .int 9]) nt2)
      refine ev_draw (Evl.ea_cons (ev_cell (Evl.ea_cons (Evl.ev_var rfl) (Evl.ea_cons Evl.ev_c Evl.ea_nil)) (Evl.ex_l e3 ha) (by decide)) (Evl.ea_cons Evl.ev_c (Evl.ea_cons Evl.ev_c Evl.ea_nil))) (by decide) _ (Evl.Ex.refl _) _ fun H4 e4 => ?_
      refine ⟨t2, _, _, .int (wide4 (drawF (cellF ns 1) 7 4)), rfl, rfl, SqT.of (e4 _ _ upd_same), four_at [5, 60, 1000000, 9] rfl (drawF_lo (by decide)) (drawF_hi (by decide)), ?_⟩
      have e5 : Ex H H4 := e3.trans e4
      have hl4 : H4 l = some (.lst []) := e4 _ _ ((Evl.Ex.new nt2) _ _ (e2 _ _ ((Evl.Ex.new nt) _ _ upd_same)))
      generalize hw : wide4 (drawF (cellF ns 1) 7 4) = wd at *
      generalize hm : most4 (drawF (cellF ns 0) 6 4) = ms at *
      refine ⟨_, rfl, a, _, rfl, .inl (Evl.ex_l e5 ha), (ns.length : Int), (by rw [hl0]), by omega, by omega, for_range (lo := 0) (n := ns.length)
        (fun i σ H' => ∃ o2, σ = [some (.ref a), some (.ref l), o2, some (.int ms), some (.int wd)] ∧ Ex H H' ∧ PL H' l ((List.range i).map (oddH ns))) ⟨none, rfl, e5, [], hl4, .nil⟩ ?_ ?_⟩
      · rintro i σ H' hi ⟨o2, rfl, e, vs, hl, ht⟩
        have ha1 := Evl.ex_l e ha
        have lv := pr_len ht
        rw [List.length_map, List.length_range] at lv
        have ei : (0 : Int) + ((i : Nat) : Int) = (i : Int) := by omega
        show tDrop _ _ ([some (.ref a), some (.ref l), some (.int ((0 : Int) + ((i : Nat) : Int))), some (.int ms), some (.int wd)]) H'
        rw [ei]
        have r0 := Evl.Ex.refl H'
        have c1 : Evl.Ev (tOp (rIxL K) (tVar 0) (tVar 2)) [some (.ref a), some (.ref l), some (.int ((i : Nat) : Int)), some (.int ms), some (.int wd)] H' (.int (cellF ns ((i : Nat) : Int))) :=
          Evl.ev_op (Evl.ev_var rfl) (Evl.ev_var rfl) (Evl.rv_ixL ha1 (atI_nat (cell_nat ns _ hi)))
        refine ⟨_, rfl, .inl ⟨rfl, _, SqL.of hl⟩, ?_⟩
        refine np_pair (p := oddH ns i) (ev_is2 (e_sub (ev_draw (Evl.ea_cons c1 (Evl.ea_cons (e_add (e_mod (Evl.ev_var rfl) Evl.ev_c (by decide)) Evl.ev_c) (Evl.ea_cons (Evl.ev_var rfl) Evl.ea_nil))) w1) (e_div (Evl.ev_var rfl) Evl.ev_c ⟨by decide, by decide⟩)) ?_)
          (ev_is2 (ev_draw (Evl.ea_cons c1 (Evl.ea_cons (e_add (e_mod (Evl.ev_var rfl) Evl.ev_c (by decide)) Evl.ev_c) (Evl.ea_cons (Evl.ev_var rfl) Evl.ea_nil))) m1) ?_) H' r0 _ fun v H2 e2 tv => ?_
        · unfold oddH; rw [hw]
        · unfold oddH; rw [hm]
        · refine ⟨l, vs, v, rfl, rfl, e2 _ _ hl, Nat.lt_of_le_of_lt (show vs.length ≤ 63 by omega) (by decide), ?_⟩
          refine ⟨_, rfl, Evl.Ex.mut (e.trans e2) nl, vs ++ [v], upd_same, ?_⟩
          rw [List.range_succ, List.map_append]
          exact pr_app ((ht.mono e2).upd (e2 _ _ hl)) (.cons (tv.upd (e2 _ _ hl)) .nil)
      · rintro σ H' ⟨o2, rfl, e, hl⟩
        exact ⟨_, rfl, k H' l e nl hl⟩
end

end Sp

set_option Elab.async false
set_option linter.all false
set_option maxRecDepth 100000
set_option maxHeartbeats 1000000
namespace Sp
open PySem L2 Mth
open Evl (Ex)
section
variable {P : Program} {w : World} {K : PySem.W.Frag} {mg : Str → Option Value} {base : Heap}
abbrev nLaw : List Str := ["_law_script", "_law_far", "_law_heaps_here", "_law_kept", "_law_many", "_law_bad", "_law_at", "_law_strange", "_law_great"]
theorem scLaw : FnScope ["_law_script", "_law_far", "_law_heaps_here", "_law_kept", "_law_many", "_law_bad", "_law_at", "_law_strange", "_law_great"] ["_law_script"] (defScope sLaw) := ⟨rfl, rfl, rfl, by decide +kernel, rfl, by decide +kernel, by decide +kernel⟩
def spLaw (K : PySem.W.Frag) : Sp := fun vs H Q _ => ∃ (a : Addr) (ns : List Int), vs = [.ref a] ∧ SqL K H a (ns.map V.int) ∧ ns.length ≤ 63 ∧ ∀ H', Q (.bl true) H'
section
open Evl
variable {σ : L2.St} {H : Hp} {ta tb te : TE}
theorem e_addS {i j : Str} (ha : Ev ta σ H (.str i)) (hb : Ev tb σ H (.str j)) (hz : i.length + j.length ≤ sizeLine) : Ev (tOp (fun x y H Q => ∃ i j, x = .str i ∧ y = .str j ∧ i.length + j.length ≤ sizeLine ∧ Q (.str (i ++ j)) H) ta tb) σ H (.str (i ++ j)) :=
  ev_op ha hb fun H1 _ Q q => ⟨i, j, rfl, rfl, hz, q H1 (Ex.refl _)⟩
theorem e_wr9 (h : NL te σ H [(v9, 0)]) : Ev (tCall spWr9 [] E0 (tCons te tNil)) σ H (.str txt9) := fun H1 e Q q =>
  h H1 e _ fun p H2 _ e2 hp => ⟨p, rfl, hp, fun H' e' => q H' (e2.trans e')⟩
end
open Evl in
theorem okLaw {f fC fH fA fT fW fI fP : Addr} {CB CP : Addr} {fd fdC fdH fdA fdT fdW : FuncData} (F : Fun K "law" "law" sLaw f fd) (m : Ms mg) (cCell : Cl P w K mg base "_law_cell_at" 1 ["_law_script", "_law_k"] (spCellAt K) fC fdC)
    (cHeaps : Cl P w K mg base "_law_heaps" 2 ["_law_script"] (spHeaps K) fH fdH) (gWH : mg "_law_with_heaps" = some (.ref fI)) (gWP : mg "_law_with_place" = some (.ref fP))
    (cAllH : Cl P w K mg base "_law_all" 7 ["_law_ask", "_law_doors", "_law_things", "_law_due"] (spAllT fI (spWH CB) CB true false false) fA fdA) (cAllP : Cl P w K mg base "_law_all" 7 ["_law_ask", "_law_doors", "_law_things", "_law_due"] (spAllT fP (spWP CP) CP false true false) fA fdA)
    (cTold : Cl P w K mg base "_law_told" 6 ["_law_ask", "_law_one", "_law_other"] (spTold fI (spWH CB) CB true false false) fT fdT) (cWritten : Cl P w K mg base "written" 4 ["heaps"] spWr9 fW fdW) : FnOk P w K mg base CX0 8 f fd ["_law_script"] (spLaw K) := by
  refine F.ok scLaw (fun vs H Q E h => ?_) (fun cdv A outer s H vs Q E hr h => ?_)
  · obtain ⟨a, ns, rfl, _⟩ := h
    rfl
  · obtain ⟨a, ns, rfl, ha, hlen, k⟩ := h
    have nd := scLaw.nd
    refine ⟨_, (pss_cons (ps_set (i := 1) nd rfl (by first | exact Or.inl rfl | exact Or.inr rfl) (pe_op op_mod (pe_call cCell.F (hr.mono (by decide)) (by rfl) cCell.g cCell.kp cCell.b .nil pass0 (pa_cons (pv 0) (pa_cons pe_int pa_nil))) (pe_op op_pow pe_int pe_int)))
    (pss_cons (ps_set (i := 2) nd rfl (by first | exact Or.inl rfl | exact Or.inr rfl) (pe_call cHeaps.F (hr.mono (by decide)) (by rfl) cHeaps.g cHeaps.kp cHeaps.b .nil pass0 (pa_cons (pv 0) pa_nil)))
    (pss_cons (ps_par (i := 3) (j := 4) (by rfl) nd rfl rfl (by decide) rfl rfl (pa_cons (pe_callTy call_list_of (by rfl) m.list_ (by decide +kernel) (pa_cons (pv 2) pa_nil)) (pa_cons (pe_callB call_len_seq (by rfl) m.len_ PySem.boot_len (pa_cons (pv 2) pa_nil)) pa_nil)) (by rfl))
    (pss_cons (ps_set (i := 5) nd rfl (by first | exact Or.inl rfl | exact Or.inr rfl) (pe_lst (pa_cons pe_non (pa_cons (pe_tup pa_nil) (pa_cons (pe_tup (pa_cons (pe_tup (pa_cons pe_int (pa_cons pe_int pa_nil))) pa_nil)) (pa_cons pe_str (pa_cons pe_dnewK (pa_cons pe_int (pa_cons (pe_lst (pa_cons pe_non pa_nil)) (pa_cons (pe_lst (pa_cons pe_int pa_nil)) (pa_cons (pe_lst (pa_cons (pe_tup (pa_cons pe_int pa_nil)) pa_nil)) (pa_cons (pe_lst (pa_cons (pe_tup (pa_cons pe_int (pa_cons pe_int (pa_cons pe_int pa_nil)))) pa_nil)) (pa_cons (pe_lst (pa_cons (pe_lst (pa_cons pe_int (pa_cons pe_int pa_nil))) pa_nil)) (pa_cons (pe_lst (pa_cons (pe_tup (pa_cons pe_int (pa_cons (pe_un un_neg pe_int) pa_nil))) pa_nil)) (pa_cons (pe_lst (pa_cons (pe_tup (pa_cons pe_int (pa_cons (pe_op op_sub (pe_un un_neg pe_int) (pv 1)) pa_nil))) pa_nil)) pa_nil)))))))))))))))
    (pss_cons (ps_set (i := 5) nd rfl (by first | exact Or.inl rfl | exact Or.inr rfl) (pe_op op_cat (pv 5) (pe_lst (pa_cons (pe_lst (pa_cons (pe_tup (pa_cons pe_bl (pa_cons pe_int pa_nil))) pa_nil)) (pa_cons (pe_lst (pa_cons (pe_tup (pa_cons pe_int (pa_cons pe_bl pa_nil))) pa_nil)) (pa_cons (pe_lst (pa_cons (pe_tup (pa_cons pe_str (pa_cons pe_int pa_nil))) pa_nil)) (pa_cons (pe_lst (pa_cons (pe_tup (pa_cons pe_int (pa_cons pe_str pa_nil))) pa_nil)) (pa_cons (pe_lst (pa_cons (pe_tup (pa_cons pe_non (pa_cons pe_int pa_nil))) pa_nil)) (pa_cons (pe_lst (pa_cons (pe_tup (pa_cons pe_int (pa_cons pe_non pa_nil))) pa_nil)) (pa_cons (pe_lst (pa_cons (pe_tup (pa_cons pe_int (pa_cons pe_int pa_nil))) (pa_cons (pe_tup (pa_cons pe_int (pa_cons (pe_un un_neg pe_int) pa_nil))) pa_nil))) pa_nil))))))))))
    (pss_cons (ps_for PassesOwn.never rfl (pi_range3 (by rfl) m.range_ (pa_cons pe_int (pa_cons (pv 4) (pa_cons (pe_op op_add pe_int (pe_op op_fdiv (pv 4) pe_int)) pa_nil)))) (pg_name (i := 6) nd rfl (by first | exact Or.inl rfl | exact Or.inr rfl))
      (pss_cons (ps_set (i := 7) nd rfl (by first | exact Or.inl rfl | exact Or.inr rfl) (pe_ix (r := rIxT K) ix_tup (pe_tup (pa_cons pe_non (pa_cons (pe_tup (pa_cons pe_int pa_nil)) (pa_cons (pe_tup (pa_cons pe_int (pa_cons (pe_op op_sub (pe_un un_neg pe_int) (pv 1)) pa_nil))) (pa_cons (pe_lst (pa_cons pe_int (pa_cons pe_int pa_nil))) (pa_cons (pe_tup (pa_cons pe_int (pa_cons pe_bl pa_nil))) pa_nil)))))) (pe_op op_mod (pv 6) pe_int) (fun _ _ => rfl)))
      (pss_one (ps_expr (pe_bm PySem.F.plainAttrs_list PySem.F.slot_list_append PySem.F.type_list_append mt_append (pv 5) (pa_cons (pe_op op_cat (pe_op op_cat (pe_slice sl_list (pv 2) po_none (po_some (pv 6))) (pe_lst (pa_cons (pv 7) pa_nil))) (pe_slice sl_list (pv 2) (po_some (pe_op op_add (pv 6) pe_int)) po_none)) pa_nil))))))
    (pss_cons (ps_if (pt_not (pt_val (pe_call cAllH.F (hr.mono (by decide)) (by rfl) cAllH.g cAllH.kp cAllH.b .nil pass0 (pa_cons (pe_glob (v := .ref _) (by rfl) gWH rfl) (pa_cons (pe_listRg rfl (by rfl) m.list_ (prg_1 (by rfl) m.range_ pe_int)) (pa_cons (pv 5) (pa_cons (pe_lst (pa_cons pe_bl (pa_cons pe_bl (pa_cons pe_bl (pa_cons pe_bl pa_nil))))) pa_nil)))))))
      (pss_one (ps_ret pe_bl))
      pss_nil)
    (pss_cons (ps_if (pt_not (pt_val (pe_call cAllP.F (hr.mono (by decide)) (by rfl) cAllP.g cAllP.kp cAllP.b .nil pass0 (pa_cons (pe_glob (v := .ref _) (by rfl) gWP rfl) (pa_cons (pe_lst (pa_cons pe_int (pa_cons pe_int pa_nil))) (pa_cons (pe_lst (pa_cons pe_non (pa_cons pe_str (pa_cons pe_bl (pa_cons (pe_lst (pa_cons pe_int pa_nil)) (pa_cons (pe_tup (pa_cons pe_int pa_nil)) (pa_cons pe_dnewK pa_nil))))))) (pa_cons (pe_lst (pa_cons pe_bl (pa_cons pe_bl (pa_cons pe_bl (pa_cons pe_bl pa_nil))))) pa_nil)))))))
      (pss_one (ps_ret pe_bl))
      pss_nil)
    (pss_cons (ps_for PassesOwn.never rfl (pi_tup (pe_tup (pa_cons (pe_lst (pa_cons (pe_tup (pa_cons (pe_op op_pow pe_int pe_int) (pa_cons pe_int pa_nil))) pa_nil)) (pa_cons (pe_lst (pa_cons (pe_tup (pa_cons (pe_op op_sub (pe_un un_neg (pe_op op_pow pe_int pe_int)) (pv 1)) (pa_cons pe_int pa_nil))) pa_nil)) (pa_cons (pe_lst (pa_cons (pe_tup (pa_cons pe_int (pa_cons (pe_op op_pow pe_int pe_int) pa_nil))) pa_nil)) (pa_cons (pe_lst (pa_cons (pe_tup (pa_cons pe_int (pa_cons pe_int pa_nil))) (pa_cons (pe_tup (pa_cons pe_int (pa_cons (pe_op op_add (pe_op op_pow pe_int pe_int) (pv 1)) pa_nil))) pa_nil))) pa_nil)))))) (pg_name (i := 8) nd rfl (by first | exact Or.inl rfl | exact Or.inr rfl))
      (pss_one (ps_if (pt_cmpR (op_neD hr.units) (pe_call cTold.F (hr.mono (by decide)) (by rfl) cTold.g cTold.kp cTold.b .nil pass0 (pa_cons (pe_glob (v := .ref _) (by rfl) gWH rfl) (pa_cons pe_int (pa_cons (pv 8) pa_nil)))) (pe_lst (pa_cons pe_bl (pa_cons pe_bl (pa_cons pe_bl (pa_cons pe_bl pa_nil))))) (nomark _))
        (pss_one (ps_ret pe_bl))
        pss_nil)))
    (pss_one (ps_ret (pe_and (pe_cmpR (op_eqD hr.units) (pv 2) (pv 3) (nomark _)) (pe_one (pe_cmpR op_eq (pe_call cWritten.F (hr.mono (by decide)) (by rfl) cWritten.g cWritten.kp cWritten.b .nil pass0 (pa_cons (pe_lst (pa_cons (pe_tup (pa_cons (pe_op op_sub pe_int (pe_op op_pow pe_int pe_int)) (pa_cons pe_int pa_nil))) pa_nil)) pa_nil)) (pe_op op_add_str (pe_op op_add_str pe_str (pe_op op_mulStr pe_str pe_int)) pe_str) (nomark _))))))))))))))), ?_⟩
    refine q_asg (e_mod (ev_cell (ea_cons (ev_var rfl) (ea_cons ev_c ea_nil)) ha (by decide)) (e_pow ev_c ev_c ⟨by decide, by decide, by decide⟩) (by decide)) fun H1 e1 => ?_
    have f0 : 0 ≤ cellF ns 0 % 10 ^ (6 : Int).toNat := Int.emod_nonneg _ (by decide)
    have f1 : cellF ns 0 % 10 ^ (6 : Int).toNat < 1000000 := Int.emod_lt_of_pos _ (by decide)
    generalize cellF ns 0 % 10 ^ (6 : Int).toNat = fr at *
    refine ⟨_, rfl, a, ns, rfl, Evl.ex_l e1 ha, hlen, fun H2 hp e2 nhp hhp => ?_⟩
    have hb := heapsF_hb hlen
    have sz := hb.sz (by decide)
    generalize heapsF ns = hs at *
    have hhl := hb.len
    refine q_parNE (nl_list (ev_var rfl) hhp) (fun H3 e3 => e_lenP (ev_var rfl) (hhp.mono e3)) fun kp H4 e4 hk4 => ?_
    have hhp4 := hhp.mono e4
    -- no heaps, of many kinds
    have b1 : ∀ {σ : L2.St} {H : Hp} {te : TE} {v : V}, Ev te σ H v → (∀ H1, Ex H H1 → HpV H1 v false) → SV (tLst (tCons te tNil)) σ H BadH := fun h k => sv_lst1 (sv_ev h k)
    have t1 : ∀ {σ : L2.St} {H : Hp} {tq : TA} {x y : V}, EvA tq σ H [x, y] → (∀ H, PV H x) → (∀ H, PV H y) → (isN x && (isN y && ge0 y)) = false → SV (tLst (tCons (tTup tq) tNil)) σ H BadH := fun h px py hn =>
      sv_lst1 (sv_imp (sv_tupC h (by simp)) fun H v ⟨t, e1, e2⟩ => by subst e1; have := HpV.two e2 (px H) (py H); rw [hn] at this; exact this)
    refine q_asgNW (nw_lst (va_cons bad_st (sv_ev ev_c fun _ _ => .inl .non)
      (va_cons bad_st (sv_imp (sv_tupC ea_nil (by simp)) fun H v ⟨t, e1, e2⟩ => by subst e1; exact .inl (.tup e2))
      (va_cons bad_st (sv_imp (sv_tup1 (sv_tupC (ea_cons ev_c (ea_cons ev_c ea_nil)) (by simp))) fun H v ⟨t, xs, e1, e2⟩ => by subst e1; exact .inl (.tup e2))
      (va_cons bad_st (sv_ev ev_c fun _ _ => .inl (.str _))
      (va_cons bad_st (sv_imp sv_dnew fun H v ⟨t, e1, e2⟩ => by subst e1; exact .inl (.dk e2))
      (va_cons bad_st (sv_ev ev_c fun _ _ => .inl (.int _))
      (va_cons bad_st (b1 ev_c fun _ _ => .non)
      (va_cons bad_st (b1 ev_c fun _ _ => .int _)
      (va_cons bad_st (sv_lst1 (sv_imp (sv_tupC (ea_cons ev_c ea_nil) (by simp)) fun H v ⟨t, e1, e2⟩ => by subst e1; exact .len e2 (by simp)))
      (va_cons bad_st (sv_lst1 (sv_imp (sv_tupC (ea_cons ev_c (ea_cons ev_c (ea_cons ev_c ea_nil))) (by simp)) fun H v ⟨t, e1, e2⟩ => by subst e1; exact .len e2 (by simp)))
      (va_cons bad_st (sv_lst1 (sv_imp (sv_lstC (ea_cons ev_c (ea_cons ev_c ea_nil)) (by simp)) fun H v ⟨t, e1, e2⟩ => by subst e1; exact .lst e2))
      (va_cons bad_st (t1 (ea_cons ev_c (ea_cons (e_neg ev_c) ea_nil)) (fun _ => .int _) (fun _ => .int _) (by decide))
      (va_cons bad_st (t1 (ea_cons ev_c (ea_cons (e_sub (e_neg ev_c) (ev_var rfl)) ea_nil)) (fun _ => .int _) (fun _ => .int _) (by show (true && (true && decide (0 ≤ -1 - fr))) = false; rw [decide_eq_false (by omega)]; rfl))
      va_nil))))))))))))) (by decide)) fun bp0 H5 vs0 nb0 e5 hl0 hv0 hb0 => ?_
    refine q_asgNW (nw_cat bad_st ⟨bp0, vs0, ev_var rfl, hb0, hl0, fun v hv => by obtain ⟨Hm, h1, _, h3⟩ := hv0 v hv; exact h3.mono h1⟩ (nw_lst (va_cons bad_st (t1 (ea_cons ev_c (ea_cons ev_c ea_nil)) (fun _ => .bl _) (fun _ => .int _) rfl)
      (va_cons bad_st (t1 (ea_cons ev_c (ea_cons ev_c ea_nil)) (fun _ => .int _) (fun _ => .bl _) rfl)
      (va_cons bad_st (t1 (ea_cons ev_c (ea_cons ev_c ea_nil)) (fun _ => .str _) (fun _ => .int _) rfl)
      (va_cons bad_st (t1 (ea_cons ev_c (ea_cons ev_c ea_nil)) (fun _ => .int _) (fun _ => .str _) rfl)
      (va_cons bad_st (t1 (ea_cons ev_c (ea_cons ev_c ea_nil)) (fun _ => .non) (fun _ => .int _) rfl)
      (va_cons bad_st (t1 (ea_cons ev_c (ea_cons ev_c ea_nil)) (fun _ => .int _) (fun _ => .non) rfl)
      (va_cons bad_st (sv_lst2 (sv_imp (sv_tupC (ea_cons ev_c (ea_cons ev_c ea_nil)) (by simp)) fun H v ⟨t, e1, e2⟩ => by subst e1; exact HpV.two e2 (.int 0) (.int 1)) (sv_imp (sv_tupC (ea_cons ev_c (ea_cons (e_neg ev_c) ea_nil)) (by simp)) fun H v ⟨t, e1, e2⟩ => by subst e1; exact HpV.two e2 (.int 0) (.int (-1))))
      va_nil))))))) (by decide)) (by decide)) fun bp H6 vs6 nb6 e6 hl6 hv6 hb6 => ?_
    have hn6 : H5 bp = none := nb6
    have bad6 : ∀ v ∈ vs6, BadN bp H6 v := fun v hv => hv6 v hv
    have hhp6 := (hhp4.mono e5).mono e6
    have hk6 := (hk4.mono e5).mono e6
    have eH6 : Ex H H6 := ((((e1.trans e2).trans e4).trans e5).trans e6)
    have hpn : hp ≠ bp := fun z => by
      obtain ⟨vs, q1, _⟩ := (hhp4.mono e5)
      rw [z, hn6] at q1
      cases q1
    have kpn : kp ≠ bp := fun z => by
      obtain ⟨vs, q1, _⟩ := (hk4.mono e5)
      rw [z, hn6] at q1
      cases q1
    have hbpH : H bp = none := Evl.fresh_back ((((e1.trans e2).trans e4).trans e5)) hn6
    clear hv0 hb0 hv6 nb6 e5 e6 e4 b1 t1
    -- strange things among heaps
    refine q_forR3 (L := hs.length) (c := 1 + (hs.length : Int) / 6) hhl (by omega) (by omega) (ea_cons ev_c (ea_cons (ev_var rfl) (ea_cons (e_add ev_c (e_div (ev_var rfl) ev_c ⟨by decide, by decide⟩)) ea_nil)))
      (fun i σ H' => ∃ o6 o7 xs, σ = [some (.ref a), some (.int fr), some (.ref hp), some (.ref kp), some (.int (hs.length : Int)), some (.ref bp), o6, o7, none] ∧ Ex H H' ∧ PL H' hp hs ∧ PL H' kp hs ∧ H' bp = some (.lst xs) ∧ xs.length ≤ 20 + i ∧ ∀ v ∈ xs, BadN bp H' v)
      (fun H7 e7 => ⟨_, _, vs6, rfl, eH6.trans e7, hhp6.mono e7, hk6.mono e7, e7 _ _ hb6, by omega, fun v hv => (bad6 v hv).mono e7⟩) (fun i z σ' H7 hi z0 z1 hP => ?_) fun i σ' H7 hi hP => ?_
    · obtain ⟨o6, o7, xs, rfl, e7, hp7, hk7, hb7, hl7, hv7⟩ := hP
      show tSeq _ _ _ ([some (.ref a), some (.int fr), some (.ref hp), some (.ref kp), some (.int (hs.length : Int)), some (.ref bp), some (.int z), o7, none]) H7
      have m5 := Int.emod_nonneg z (show (5 : Int) ≠ 0 by decide)
      have m6 := Int.emod_lt_of_pos z (show (0 : Int) < 5 by decide)
      refine q_asgSV (R := Odd1 bp) (sv_ix5 odd_st (va_cons odd_st (sv_ev ev_c fun _ _ => .non)
        (va_cons odd_st (sv_imp (sv_tupC (ea_cons ev_c ea_nil) (by simp)) fun H v ⟨t, e1, e2⟩ => by subst e1; exact .one e2)
        (va_cons odd_st (sv_imp (sv_tupC (ea_cons ev_c (ea_cons (e_sub (e_neg ev_c) (ev_var rfl)) ea_nil)) (by simp)) fun H v ⟨t, e1, e2⟩ => by subst e1; exact .low e2 (by omega))
        (va_cons odd_st (sv_oddL hb7 (ea_cons ev_c (ea_cons ev_c ea_nil)) (by simp))
        (va_cons odd_st (sv_imp (sv_tupC (ea_cons ev_c (ea_cons ev_c ea_nil)) (by simp)) fun H v ⟨t, e1, e2⟩ => by subst e1; exact .bl e2)
        va_nil))))) (e_mod (ev_var rfl) ev_c (by decide)) m5 m6) fun v H8 e8 hv8 => ?_
      have hb8 := e8 _ _ hb7
      have hp8 := hp7.mono e8
      have c1 := cutQ_len hs none (some z)
      have c2 := cutQ_len hs (some (z + 1)) none
      refine s_appSV hb8 (ev_var rfl) (sv_odd hb8 (nl_sl (ev_var rfl) eo_none (eo_some (ev_var rfl)) hp8) (ev_var rfl) hv8 (nl_sl (ev_var rfl) (eo_some (e_add (ev_var rfl) ev_c)) eo_none hp8) (by omega)) (by omega) fun v2 H9 e9 hv9 hb9 => ?_
      have hk9 := (hk7.mono e8).mono e9
      refine ⟨_, _, xs ++ [v2], rfl, Ex.mut ((e7.trans e8).trans e9) hbpH, (hp8.mono e9).upd hb9 hpn, hk9.upd hb9 kpn, upd_same, by rw [List.length_append, List.length_singleton]; omega, fun y hy => ?_⟩
      rcases List.mem_append.mp hy with hy | hy
      · exact ((hv7 y hy).mono (e8.trans e9)).upd
      · rcases List.mem_singleton.mp hy with rfl
        exact hv9.upd
    · obtain ⟨o6, o7, xs, rfl, e7, hp7, hk7, hb7, hl7, hv7⟩ := hP
      -- refused at each door
      refine q_when (b := false) (et_is (et_not (et_B (ev_allC el_rg5 (th_var (ev_var rfl) hb7 (by omega) (fun v hv => (hv7 v hv).bad)) (el_lst (ea_cons ev_c (ea_cons ev_c (ea_cons ev_c (ea_cons ev_c ea_nil)))) (by simp))))) rfl) (fun z => nomatch z) fun _ H8 e8 => ?_
      have b1 : ∀ {σ : L2.St} {H : Hp} {te : TE} {v : V}, Ev te σ H v → (∀ H1, PV H1 v) → isN v = false → SV te σ H (fun H v => PV H v ∧ isN v = false) := fun h k n => sv_ev h fun H1 _ => ⟨k H1, n⟩
      refine q_when (b := false) (et_is (et_not (et_B (ev_allC (ds := [0, 1]) (el_lst (ea_cons ev_c (ea_cons ev_c ea_nil)) (by simp)) (th_nw (nw_lst (va_cons pvn_st (b1 ev_c (fun _ => .non) rfl) (va_cons pvn_st (b1 ev_c (fun _ => .str _) rfl) (va_cons pvn_st (b1 ev_c (fun _ => .bl _) rfl)
        (va_cons pvn_st (sv_imp (sv_lstC (ea_cons ev_c ea_nil) (by simp)) fun H v ⟨t, e1, e2⟩ => by subst e1; exact ⟨.lst e2, rfl⟩)
        (va_cons pvn_st (sv_imp (sv_tupC (ea_cons ev_c ea_nil) (by simp)) fun H v ⟨t, e1, e2⟩ => by subst e1; exact ⟨.tup e2, rfl⟩)
        (va_cons pvn_st (sv_imp sv_dnew fun H v ⟨t, e1, e2⟩ => by subst e1; exact ⟨.dk e2, rfl⟩) va_nil)))))) (by decide)) (by decide)) (el_lst (ea_cons ev_c (ea_cons ev_c (ea_cons ev_c (ea_cons ev_c ea_nil)))) (by simp))))) rfl) (fun z => nomatch z) fun _ H9 e9 => ?_
      have hp9 := (hp7.mono e8).mono e9
      have hk9 := (hk7.mono e8).mono e9
      have t60 : (10 : Int) ^ (60 : Int).toNat = 1000000000000000000000000000000000000000000000000000000000000 := by decide
      have n60 : (10 : Nat) ^ 60 = 1000000000000000000000000000000000000000000000000000000000000 := by decide
      have g1 : ∀ {x y : Int}, ¬ (x.natAbs < 10 ^ 60 ∧ y.natAbs < 10 ^ 60) → fitB (x, y) = false := fun {x y} h => by
        unfold fitB
        rw [Bool.eq_false_iff]
        intro z
        rw [Bool.and_eq_true, decide_eq_true_eq, decide_eq_true_eq] at z
        exact h z
      have o1 : ∀ {x y : Int}, 0 ≤ y → Ok [(x, y)] := fun h z hz => by rcases List.mem_singleton.mp hz with rfl; exact h
      refine q_forVA (R := GreatH) great_st (va_cons great_st (sv_nl (nl_lst (na_cons (np_pair (p := (10 ^ (60 : Int).toNat, 1)) (e_pow ev_c ev_c ⟨by decide, by decide, by decide⟩) ev_c) na_nil) (by simp)) (o1 (by decide)) (by rw [List.all_cons, g1 (by rw [t60, n60]; omega)]; rfl))
        (va_cons great_st (sv_nl (nl_lst (na_cons (np_pair (p := (-10 ^ (60 : Int).toNat - fr, 1)) (e_sub (e_neg (e_pow ev_c ev_c ⟨by decide, by decide, by decide⟩)) (ev_var rfl)) ev_c) na_nil) (by simp)) (o1 (by decide)) (by rw [List.all_cons, g1 (by rw [t60, n60]; omega)]; rfl))
        (va_cons great_st (sv_nl (nl_lst (na_cons (np_pair (p := (0, 10 ^ (60 : Int).toNat)) ev_c (e_pow ev_c ev_c ⟨by decide, by decide, by decide⟩)) na_nil) (by simp)) (o1 (by rw [t60]; omega)) (by rw [List.all_cons, g1 (by rw [t60, n60]; omega)]; rfl))
        (va_cons great_st (sv_nl (nl_lst (na_cons (np_pair (p := (0, 1)) ev_c ev_c) (na_cons (np_pair (p := (5, 10 ^ (60 : Int).toNat + fr)) ev_c (e_add (e_pow ev_c ev_c ⟨by decide, by decide, by decide⟩) (ev_var rfl))) na_nil)) (by simp)) (fun z hz => by
            simp only [List.mem_cons, List.not_mem_nil, or_false] at hz
            rcases hz with rfl | rfl
            · decide
            · show 0 ≤ 10 ^ (60 : Int).toNat + fr
              rw [t60]
              omega) (by rw [List.all_cons, List.all_cons, g1 (x := 5) (by rw [t60, n60]; omega)]; simp))
        va_nil)))) (by decide) (fun σ H' => ∃ o8, σ = [some (.ref a), some (.int fr), some (.ref hp), some (.ref kp), some (.int (hs.length : Int)), some (.ref bp), o6, o7, o8] ∧ Ex H9 H') (fun σ' H' H2 e ⟨o, h1, h2⟩ => ⟨o, h1, h2.trans e⟩) (fun H10 e10 => ⟨_, rfl, e10⟩) (fun v σ' H10 hv hP => ?_) fun σ' H10 hP => ?_
      · obtain ⟨o8, rfl, e10⟩ := hP
        refine s_when (b := false) (et_test (e_neBL (bs := [true, false, false, true]) (vl_new (el_told (ea_cons ev_c (ea_cons ev_c (ea_cons (ev_var rfl) ea_nil))) (asks_g hv))) (vl_new (el_lst (ea_cons ev_c (ea_cons ev_c (ea_cons ev_c (ea_cons ev_c ea_nil)))) (by simp))))) (fun z => nomatch z) fun _ H11 e11 => ⟨e11, _, rfl, e10.trans e11⟩
      · obtain ⟨o8, rfl, e10⟩ := hP
        have hp10 := hp9.mono e10
        have hk10 := hk9.mono e10
        have e9 : (("-" : Str) ++ "999999999999999999999999999999999999999999999999999999999999" ++ ":0" : Str) = txt9 := by decide +kernel
        refine s_ret (ev_is2 (ev_andV (b := true) (e_eqS (sl_of (ev_var rfl) hp10) (sl_of (ev_var rfl) hk10)) fun _ => ev_is2 (ev_op (x := .str txt9) (y := .str txt9) (e_wr9 (nl_lst (na_cons (np_pair (p := (v9, 0)) (e_sub ev_c (e_pow ev_c ev_c ⟨by decide, by decide, by decide⟩)) ev_c) na_nil) (by simp))) (ev_is2 (e_addS (e_addS ev_c e_nines (by rw [sizeLine_eq]; decide +kernel)) ev_c (by rw [sizeLine_eq]; decide +kernel)) (congrArg V.str e9)) (rv_eq rfl)) (by simp)) (by simp)) fun H11 e11 => k H11
end

end Sp

set_option Elab.async false
set_option linter.all false
set_option maxRecDepth 100000
set_option maxHeartbeats 4000000
namespace Sp
open PySem L2 Mth
open Evl (Ex)
theorem all_mk {l : PySem.W.OpenLaw} {w : World} {K : PySem.W.Frag} {h : Heap} {mg : Str → Option Value} {fa  f1 f2 f3 f4 f5 f6 f7 f8 f9 f10 f11 f12 f13 f14 f15 f16 f17 f18 CH CB CP CT : Addr} (X : K.In h) (G : h.Ns mainGlobals mg) (hfa : mg "law" = some (.ref fa))
    {od1 an1 od2 an2 od3 an3 od4 an4 od5 an5 od6 an6 od7 an7 od8 an8 od9 an9 od10 an10 od11 an11 od12 an12 od13 an13 od14 an14 od15 an15 od16 an16 od17 an17 od18 an18 : Option Addr} {sl1 sl2 sl3 sl4 sl5 sl6 sl7 sl8 sl9 sl10 sl11 sl12 sl13 sl14 sl15 sl16 sl17 sl18 : Array (Option Value)} {oc1 kV1 dc1 pm1 cd1 ct1 oc2 kV2 dc2 pm2 cd2 ct2 oc3 kV3 dc3 pm3 cd3 ct3 oc4 kV4 dc4 pm4 cd4 ct4 oc5 kV5 dc5 pm5 cd5 ct5 oc6 kV6 dc6 pm6 cd6 ct6 oc7 kV7 dc7 pm7 cd7 ct7 oc8 kV8 dc8 pm8 cd8 ct8 oc9 kV9 dc9 pm9 cd9 ct9 oc10 kV10 dc10 pm10 cd10 ct10 oc11 kV11 dc11 pm11 cd11 ct11 oc12 kV12 dc12 pm12 cd12 ct12 oc13 kV13 dc13 pm13 cd13 ct13 oc14 kV14 dc14 pm14 cd14 ct14 oc15 kV15 dc15 pm15 cd15 ct15 oc16 kV16 dc16 pm16 cd16 ct16 oc17 kV17 dc17 pm17 cd17 ct17 oc18 kV18 dc18 pm18 cd18 ct18 : Value}
    (a1 : PySem.W.nsIn K mainGlobals "is_number" = some (some (.ref f1))) (l1 : K.lookup f1 = some ⟨oc1, od1, .func (PySem.W.fnOf "is_number" "is_number" (defArgs sIsNumber) (defBody sIsNumber) (defScope sIsNumber) .none kV1 dc1 pm1 an1 cd1 ct1), sl1⟩) (c1 : PySem.W.codeIn K cd1 "is_number" = true) (k1 : PySem.W.keepIn K (.ref f1) = true)
    (a2 : PySem.W.nsIn K mainGlobals "is_heap" = some (some (.ref f2))) (l2 : K.lookup f2 = some ⟨oc2, od2, .func (PySem.W.fnOf "is_heap" "is_heap" (defArgs sIsHeap) (defBody sIsHeap) (defScope sIsHeap) .none kV2 dc2 pm2 an2 cd2 ct2), sl2⟩) (c2 : PySem.W.codeIn K cd2 "is_heap" = true) (k2 : PySem.W.keepIn K (.ref f2) = true)
    (a3 : PySem.W.nsIn K mainGlobals "check_heaps" = some (some (.ref f3))) (l3 : K.lookup f3 = some ⟨oc3, od3, .func (PySem.W.fnOf "check_heaps" "check_heaps" (defArgs sCheckHeaps) (defBody sCheckHeaps) (defScope sCheckHeaps) .none kV3 dc3 pm3 an3 cd3 ct3), sl3⟩) (c3 : PySem.W.codeIn K cd3 "check_heaps" = true) (k3 : PySem.W.keepIn K (.ref f3) = true)
    (a4 : PySem.W.nsIn K mainGlobals "check_place" = some (some (.ref f4))) (l4 : K.lookup f4 = some ⟨oc4, od4, .func (PySem.W.fnOf "check_place" "check_place" (defArgs sCheckPlace) (defBody sCheckPlace) (defScope sCheckPlace) .none kV4 dc4 pm4 an4 cd4 ct4), sl4⟩) (c4 : PySem.W.codeIn K cd4 "check_place" = true) (k4 : PySem.W.keepIn K (.ref f4) = true)
    (a5 : PySem.W.nsIn K mainGlobals "spread" = some (some (.ref f5))) (l5 : K.lookup f5 = some ⟨oc5, od5, .func (PySem.W.fnOf "spread" "spread" (defArgs sSpread) (defBody sSpread) (defScope sSpread) .none kV5 dc5 pm5 an5 cd5 ct5), sl5⟩) (c5 : PySem.W.codeIn K cd5 "spread" = true) (k5 : PySem.W.keepIn K (.ref f5) = true)
    (a6 : PySem.W.nsIn K mainGlobals "left" = some (some (.ref f6))) (l6 : K.lookup f6 = some ⟨oc6, od6, .func (PySem.W.fnOf "left" "left" (defArgs sLeft) (defBody sLeft) (defScope sLeft) .none kV6 dc6 pm6 an6 cd6 ct6), sl6⟩) (c6 : PySem.W.codeIn K cd6 "left" = true) (k6 : PySem.W.keepIn K (.ref f6) = true)
    (a7 : PySem.W.nsIn K mainGlobals "gave" = some (some (.ref f7))) (l7 : K.lookup f7 = some ⟨oc7, od7, .func (PySem.W.fnOf "gave" "gave" (defArgs sGave) (defBody sGave) (defScope sGave) .none kV7 dc7 pm7 an7 cd7 ct7), sl7⟩) (c7 : PySem.W.codeIn K cd7 "gave" = true) (k7 : PySem.W.keepIn K (.ref f7) = true)
    (a8 : PySem.W.nsIn K mainGlobals "all_gave" = some (some (.ref f8))) (l8 : K.lookup f8 = some ⟨oc8, od8, .func (PySem.W.fnOf "all_gave" "all_gave" (defArgs sAllGave) (defBody sAllGave) (defScope sAllGave) .none kV8 dc8 pm8 an8 cd8 ct8), sl8⟩) (c8 : PySem.W.codeIn K cd8 "all_gave" = true) (k8 : PySem.W.keepIn K (.ref f8) = true)
    (a9 : PySem.W.nsIn K mainGlobals "fits" = some (some (.ref f9))) (l9 : K.lookup f9 = some ⟨oc9, od9, .func (PySem.W.fnOf "fits" "fits" (defArgs sFits) (defBody sFits) (defScope sFits) .none kV9 dc9 pm9 an9 cd9 ct9), sl9⟩) (c9 : PySem.W.codeIn K cd9 "fits" = true) (k9 : PySem.W.keepIn K (.ref f9) = true)
    (a10 : PySem.W.nsIn K mainGlobals "written" = some (some (.ref f10))) (l10 : K.lookup f10 = some ⟨oc10, od10, .func (PySem.W.fnOf "written" "written" (defArgs sWritten) (defBody sWritten) (defScope sWritten) .none kV10 dc10 pm10 an10 cd10 ct10), sl10⟩) (c10 : PySem.W.codeIn K cd10 "written" = true) (k10 : PySem.W.keepIn K (.ref f10) = true)
    (a11 : PySem.W.nsIn K mainGlobals "_law_cell_at" = some (some (.ref f11))) (l11 : K.lookup f11 = some ⟨oc11, od11, .func (PySem.W.fnOf "_law_cell_at" "_law_cell_at" (defArgs sLawCellAt) (defBody sLawCellAt) (defScope sLawCellAt) .none kV11 dc11 pm11 an11 cd11 ct11), sl11⟩) (c11 : PySem.W.codeIn K cd11 "_law_cell_at" = true) (k11 : PySem.W.keepIn K (.ref f11) = true)
    (a12 : PySem.W.nsIn K mainGlobals "_law_draw" = some (some (.ref f12))) (l12 : K.lookup f12 = some ⟨oc12, od12, .func (PySem.W.fnOf "_law_draw" "_law_draw" (defArgs sLawDraw) (defBody sLawDraw) (defScope sLawDraw) .none kV12 dc12 pm12 an12 cd12 ct12), sl12⟩) (c12 : PySem.W.codeIn K cd12 "_law_draw" = true) (k12 : PySem.W.keepIn K (.ref f12) = true)
    (a13 : PySem.W.nsIn K mainGlobals "_law_heaps" = some (some (.ref f13))) (l13 : K.lookup f13 = some ⟨oc13, od13, .func (PySem.W.fnOf "_law_heaps" "_law_heaps" (defArgs sLawHeaps) (defBody sLawHeaps) (defScope sLawHeaps) .none kV13 dc13 pm13 an13 cd13 ct13), sl13⟩) (c13 : PySem.W.codeIn K cd13 "_law_heaps" = true) (k13 : PySem.W.keepIn K (.ref f13) = true)
    (a14 : PySem.W.nsIn K mainGlobals "_law_with_heaps" = some (some (.ref f14))) (l14 : K.lookup f14 = some ⟨oc14, od14, .func (PySem.W.fnOf "_law_with_heaps" "_law_with_heaps" (defArgs sLawWithHeaps) (defBody sLawWithHeaps) (defScope sLawWithHeaps) .none kV14 dc14 pm14 an14 cd14 ct14), sl14⟩) (c14 : PySem.W.codeIn K cd14 "_law_with_heaps" = true) (k14 : PySem.W.keepIn K (.ref f14) = true)
    (a15 : PySem.W.nsIn K mainGlobals "_law_with_place" = some (some (.ref f15))) (l15 : K.lookup f15 = some ⟨oc15, od15, .func (PySem.W.fnOf "_law_with_place" "_law_with_place" (defArgs sLawWithPlace) (defBody sLawWithPlace) (defScope sLawWithPlace) .none kV15 dc15 pm15 an15 cd15 ct15), sl15⟩) (c15 : PySem.W.codeIn K cd15 "_law_with_place" = true) (k15 : PySem.W.keepIn K (.ref f15) = true)
    (a16 : PySem.W.nsIn K mainGlobals "_law_told" = some (some (.ref f16))) (l16 : K.lookup f16 = some ⟨oc16, od16, .func (PySem.W.fnOf "_law_told" "_law_told" (defArgs sLawTold) (defBody sLawTold) (defScope sLawTold) .none kV16 dc16 pm16 an16 cd16 ct16), sl16⟩) (c16 : PySem.W.codeIn K cd16 "_law_told" = true) (k16 : PySem.W.keepIn K (.ref f16) = true)
    (a17 : PySem.W.nsIn K mainGlobals "_law_all" = some (some (.ref f17))) (l17 : K.lookup f17 = some ⟨oc17, od17, .func (PySem.W.fnOf "_law_all" "_law_all" (defArgs sLawAll) (defBody sLawAll) (defScope sLawAll) .none kV17 dc17 pm17 an17 cd17 ct17), sl17⟩) (c17 : PySem.W.codeIn K cd17 "_law_all" = true) (k17 : PySem.W.keepIn K (.ref f17) = true)
    (a18 : PySem.W.nsIn K mainGlobals "law" = some (some (.ref f18))) (l18 : K.lookup f18 = some ⟨oc18, od18, .func (PySem.W.fnOf "law" "law" (defArgs sLaw) (defBody sLaw) (defScope sLaw) .none kV18 dc18 pm18 an18 cd18 ct18), sl18⟩) (c18 : PySem.W.codeIn K cd18 "law" = true) (k18 : PySem.W.keepIn K (.ref f18) = true)
    (z_isinstance : PySem.W.nsIn K mainGlobals "isinstance" = some none)
    (z_int : PySem.W.nsIn K mainGlobals "int" = some none)
    (z_bool : PySem.W.nsIn K mainGlobals "bool" = some none)
    (z_tuple : PySem.W.nsIn K mainGlobals "tuple" = some none)
    (z_list : PySem.W.nsIn K mainGlobals "list" = some none)
    (z_len : PySem.W.nsIn K mainGlobals "len" = some none)
    (z_sorted : PySem.W.nsIn K mainGlobals "sorted" = some none)
    (z_range : PySem.W.nsIn K mainGlobals "range" = some none)
    (z_sum : PySem.W.nsIn K mainGlobals "sum" = some none)
    (z_min : PySem.W.nsIn K mainGlobals "min" = some none)
    (z_max : PySem.W.nsIn K mainGlobals "max" = some none)
    (z_any : PySem.W.nsIn K mainGlobals "any" = some none)
    (z_all : PySem.W.nsIn K mainGlobals "all" = some none)
    (z_abs : PySem.W.nsIn K mainGlobals "abs" = some none)
    (z_str : PySem.W.nsIn K mainGlobals "str" = some none)
    (aCH : PySem.W.nsIn K mainGlobals "HeapError" = some (some (.ref CH)))
    (aCB : PySem.W.nsIn K mainGlobals "BadHeaps" = some (some (.ref CB)))
    (aCP : PySem.W.nsIn K mainGlobals "BadPlace" = some (some (.ref CP)))
    (aCT : PySem.W.nsIn K mainGlobals "BadText" = some (some (.ref CT)))
    (xCB : PySem.W.excIn K CB [.type "ValueError", .type "Exception", .type "BaseException", .type "object"] "ValueError.__new__" = true)
    (kCB : PySem.W.keepIn K (.ref CB) = true)
    (sCB : PySem.W.subIn K (.ref CB) (.type "BaseException") = some true)
    (tCB : PySem.W.typeIn K (.ref CB) = some (.type "type"))
    (hgB : PySem.W.findIn K (.ref CB) "__getattribute__" = some (some (.builtin "BaseException.__getattribute__")))
    (hkB : PySem.W.findIn K (.ref CB) "__getattr__" = some none)
    (hdB : PySem.W.hasDictIn K CB = true)
    (haB : PySem.W.findIn K (.ref CB) "__class__" = some (some (.builtin "object.__class__")))
    (hmB : PySem.W.mroIn K CB (.type "object") = some true)
    (k1B : PySem.W.kitOne K (.ref CB) (.ref CB) = some true)
    (k2B : PySem.W.kitOne K (.ref CB) (.ref CP) = some false)
    (k3B : PySem.W.kitOne K (.ref CB) (.ref CT) = some false)
    (k4B : PySem.W.kitOne K (.ref CB) (.type "ValueError") = some true)
    (exB : PySem.W.exmOne K (.ref CB) (.ref CH) = some true)
    (xCP : PySem.W.excIn K CP [.type "ValueError", .type "Exception", .type "BaseException", .type "object"] "ValueError.__new__" = true)
    (kCP : PySem.W.keepIn K (.ref CP) = true)
    (sCP : PySem.W.subIn K (.ref CP) (.type "BaseException") = some true)
    (tCP : PySem.W.typeIn K (.ref CP) = some (.type "type"))
    (hgP : PySem.W.findIn K (.ref CP) "__getattribute__" = some (some (.builtin "BaseException.__getattribute__")))
    (hkP : PySem.W.findIn K (.ref CP) "__getattr__" = some none)
    (hdP : PySem.W.hasDictIn K CP = true)
    (haP : PySem.W.findIn K (.ref CP) "__class__" = some (some (.builtin "object.__class__")))
    (hmP : PySem.W.mroIn K CP (.type "object") = some true)
    (k1P : PySem.W.kitOne K (.ref CP) (.ref CB) = some false)
    (k2P : PySem.W.kitOne K (.ref CP) (.ref CP) = some true)
    (k3P : PySem.W.kitOne K (.ref CP) (.ref CT) = some false)
    (k4P : PySem.W.kitOne K (.ref CP) (.type "ValueError") = some true)
    (exP : PySem.W.exmOne K (.ref CP) (.ref CH) = some true)
    (hnO : PySem.W.specialIn K (.builtin "object.__class__") "__get__" = some (some (.builtin "getset_descriptor.__get__")))
    (htO : PySem.W.takesIn K (.builtin "object.__class__") = some true)
    (zV : PySem.W.nsIn K mainGlobals "ValueError" = some none) :
    ∃ fd : FuncData, (∀ (s : Shared) (v : Value), BindsTo s fd ⟨[v], []⟩ [("_law_script", v)]) ∧ ∀ base : Heap, K.In base → base.Ns mainGlobals mg → FnOk l.prog w K mg base CX0 8 fa fd ["_law_script"] (spLaw K) := by
  have e := hfa.symm.trans (PySem.W.mg_of X G a18)
  cases e
  have m : Ms mg := ⟨PySem.W.mg_none_of X G z_isinstance, PySem.W.mg_none_of X G z_int, PySem.W.mg_none_of X G z_bool, PySem.W.mg_none_of X G z_tuple, PySem.W.mg_none_of X G z_list, PySem.W.mg_none_of X G z_len, PySem.W.mg_none_of X G z_sorted, PySem.W.mg_none_of X G z_range, PySem.W.mg_none_of X G z_sum, PySem.W.mg_none_of X G z_min, PySem.W.mg_none_of X G z_max, PySem.W.mg_none_of X G z_any, PySem.W.mg_none_of X G z_all, PySem.W.mg_none_of X G z_abs, PySem.W.mg_none_of X G z_str⟩
  have F1 := fun_mk (st := sIsNumber) l1 c1 k1
  have b1 := F1.binds (ps := ["value"]) fun _ _ _ _ _ _ us hl => match us, hl with | [_], _ => rfl
  have F2 := fun_mk (st := sIsHeap) l2 c2 k2
  have b2 := F2.binds (ps := ["value"]) fun _ _ _ _ _ _ us hl => match us, hl with | [_], _ => rfl
  have F3 := fun_mk (st := sCheckHeaps) l3 c3 k3
  have b3 := F3.binds (ps := ["heaps"]) fun _ _ _ _ _ _ us hl => match us, hl with | [_], _ => rfl
  have F4 := fun_mk (st := sCheckPlace) l4 c4 k4
  have b4 := F4.binds (ps := ["place"]) fun _ _ _ _ _ _ us hl => match us, hl with | [_], _ => rfl
  have F5 := fun_mk (st := sSpread) l5 c5 k5
  have b5 := F5.binds (ps := ["heaps"]) fun _ _ _ _ _ _ us hl => match us, hl with | [_], _ => rfl
  have F6 := fun_mk (st := sLeft) l6 c6 k6
  have b6 := F6.binds (ps := ["heaps", "place"]) fun _ _ _ _ _ _ us hl => match us, hl with | [_, _], _ => rfl
  have F7 := fun_mk (st := sGave) l7 c7 k7
  have b7 := F7.binds (ps := ["heaps", "place"]) fun _ _ _ _ _ _ us hl => match us, hl with | [_, _], _ => rfl
  have F8 := fun_mk (st := sAllGave) l8 c8 k8
  have b8 := F8.binds (ps := ["heaps"]) fun _ _ _ _ _ _ us hl => match us, hl with | [_], _ => rfl
  have F9 := fun_mk (st := sFits) l9 c9 k9
  have b9 := F9.binds (ps := ["number"]) fun _ _ _ _ _ _ us hl => match us, hl with | [_], _ => rfl
  have F10 := fun_mk (st := sWritten) l10 c10 k10
  have b10 := F10.binds (ps := ["heaps"]) fun _ _ _ _ _ _ us hl => match us, hl with | [_], _ => rfl
  have F11 := fun_mk (st := sLawCellAt) l11 c11 k11
  have b11 := F11.binds (ps := ["_law_script", "_law_k"]) fun _ _ _ _ _ _ us hl => match us, hl with | [_, _], _ => rfl
  have F12 := fun_mk (st := sLawDraw) l12 c12 k12
  have b12 := F12.binds (ps := ["_law_cell", "_law_k", "_law_many"]) fun _ _ _ _ _ _ us hl => match us, hl with | [_, _, _], _ => rfl
  have F13 := fun_mk (st := sLawHeaps) l13 c13 k13
  have b13 := F13.binds (ps := ["_law_script"]) fun _ _ _ _ _ _ us hl => match us, hl with | [_], _ => rfl
  have F14 := fun_mk (st := sLawWithHeaps) l14 c14 k14
  have b14 := F14.binds (ps := ["_law_door", "_law_heaps_here"]) fun _ _ _ _ _ _ us hl => match us, hl with | [_, _], _ => rfl
  have F15 := fun_mk (st := sLawWithPlace) l15 c15 k15
  have b15 := F15.binds (ps := ["_law_door", "_law_place"]) fun _ _ _ _ _ _ us hl => match us, hl with | [_, _], _ => rfl
  have F16 := fun_mk (st := sLawTold) l16 c16 k16
  have b16 := F16.binds (ps := ["_law_ask", "_law_one", "_law_other"]) fun _ _ _ _ _ _ us hl => match us, hl with | [_, _, _], _ => rfl
  have F17 := fun_mk (st := sLawAll) l17 c17 k17
  have b17 := F17.binds (ps := ["_law_ask", "_law_doors", "_law_things", "_law_due"]) fun _ _ _ _ _ _ us hl => match us, hl with | [_, _, _, _], _ => rfl
  have F18 := fun_mk (st := sLaw) l18 c18 k18
  refine ⟨PySem.W.fnOf "law" "law" (defArgs sLaw) (defBody sLaw) (defScope sLaw) .none kV18 dc18 pm18 an18 cd18 ct18, fun s v => .of_eq rfl, fun base _ _ => ?_⟩
  have LC : Cl l.prog w K mg base "_law_cell_at" 1 ["_law_script", "_law_k"] (spCellAt K) _ _ := ⟨okCellAt F11 m, PySem.W.mg_of X G a11, k11, b11⟩
  have LD : Cl l.prog w K mg base "_law_draw" 1 ["_law_cell", "_law_k", "_law_many"] spDraw _ _ := ⟨okDraw F12, PySem.W.mg_of X G a12, k12, b12⟩
  have LH : Cl l.prog w K mg base "_law_heaps" 2 ["_law_script"] (spHeaps K) _ _ := ⟨okHeaps F13 LC LD m, PySem.W.mg_of X G a13, k13, b13⟩
  have xH : XTxt K mg "BadHeaps" CB := ⟨PySem.W.mg_of X G aCB, xCB, kCB, sCB, tCB⟩
  have xP : XTxt K mg "BadPlace" CP := ⟨PySem.W.mg_of X G aCP, xCP, kCP, sCP, tCP⟩
  have keB : KE K CB CB CP CT true false false := ⟨⟨hgB, hkB, sCB, hdB, haB, hnO, htO, hmB⟩, k1B, k2B, k3B, k4B⟩
  have keP : KE K CP CB CP CT false true false := ⟨⟨hgP, hkP, sCP, hdP, haP, hnO, htO, hmP⟩, k1P, k2P, k3P, k4P⟩
  have N : Cl l.prog w K mg base "is_number" 1 ["value"] spNum _ _ := ⟨okNum F1 m, PySem.W.mg_of X G a1, k1, b1⟩
  have HV : Cl l.prog w K mg base "is_heap" 2 ["value"] spHeap _ _ := ⟨okHeap F2 N m, PySem.W.mg_of X G a2, k2, b2⟩
  have CHx : Clx l.prog w K mg base "check_heaps" 3 ["heaps"] (spCheckX CB) _ _ := ⟨okCheckX F3 HV m xH, PySem.W.mg_of X G a3, k3, b3⟩
  have PLx : Clx l.prog w K mg base "check_place" 2 ["place"] (spPlaceX CP) _ _ := ⟨okPlaceX F4 N m xP, PySem.W.mg_of X G a4, k4, b4⟩
  have SPx : Clx l.prog w K mg base "spread" 4 ["heaps"] (spDoor1 CB) _ _ := ⟨okSpreadX F5 CHx, PySem.W.mg_of X G a5, k5, b5⟩
  have LFx : Clx l.prog w K mg base "left" 4 ["heaps", "place"] (spDoor2 CB CP) _ _ := ⟨okLeftX F6 CHx PLx, PySem.W.mg_of X G a6, k6, b6⟩
  have GVx : Clx l.prog w K mg base "gave" 4 ["heaps", "place"] (spDoor2 CB CP) _ _ := ⟨okGaveX F7 CHx PLx, PySem.W.mg_of X G a7, k7, b7⟩
  have AGx : Clx l.prog w K mg base "all_gave" 4 ["heaps"] (spDoor1 CB) _ _ := ⟨okAllX F8 CHx, PySem.W.mg_of X G a8, k8, b8⟩
  have FT : Cl l.prog w K mg base "fits" 1 ["number"] spFits _ _ := ⟨okFits F9 m, PySem.W.mg_of X G a9, k9, b9⟩
  have WRx : Clx l.prog w K mg base "written" 4 ["heaps"] (spWrittenX CB) _ _ := ⟨okWrittenX F10 CHx FT xH, PySem.W.mg_of X G a10, k10, b10⟩
  have CHg : Cl l.prog w K mg base "check_heaps" 3 ["heaps"] spCheckG _ _ := ⟨okCheckG F3 HV m, PySem.W.mg_of X G a3, k3, b3⟩
  have WR9 : Cl l.prog w K mg base "written" 4 ["heaps"] spWr9 _ _ := ⟨okWr9 F10 CHg FT m, PySem.W.mg_of X G a10, k10, b10⟩
  have WH := okWH F14 SPx LFx GVx AGx WRx
  have WP := okWP F15 LFx GVx
  have TH : Cl l.prog w K mg base "_law_told" 6 ["_law_ask", "_law_one", "_law_other"] (spTold f14 (spWH CB) CB true false false) _ _ := ⟨okTold F16 m WH k14 b14 (PySem.W.mg_of X G aCH) (PySem.W.mg_of X G aCB) (PySem.W.mg_of X G aCP) (PySem.W.mg_of X G aCT) (PySem.W.mg_none_of X G zV) exB keB, PySem.W.mg_of X G a16, k16, b16⟩
  have ALH : Cl l.prog w K mg base "_law_all" 7 ["_law_ask", "_law_doors", "_law_things", "_law_due"] (spAllT f14 (spWH CB) CB true false false) _ _ := ⟨okAllT F17 m TH, PySem.W.mg_of X G a17, k17, b17⟩
  have TP : Cl l.prog w K mg base "_law_told" 6 ["_law_ask", "_law_one", "_law_other"] (spTold f15 (spWP CP) CP false true false) _ _ := ⟨okTold F16 m WP k15 b15 (PySem.W.mg_of X G aCH) (PySem.W.mg_of X G aCB) (PySem.W.mg_of X G aCP) (PySem.W.mg_of X G aCT) (PySem.W.mg_none_of X G zV) exP keP, PySem.W.mg_of X G a16, k16, b16⟩
  have ALP : Cl l.prog w K mg base "_law_all" 7 ["_law_ask", "_law_doors", "_law_things", "_law_due"] (spAllT f15 (spWP CP) CP false true false) _ _ := ⟨okAllT F17 m TP, PySem.W.mg_of X G a17, k17, b17⟩
  exact okLaw F18 m LC LH (PySem.W.mg_of X G a14) (PySem.W.mg_of X G a15) ALH ALP TH WR9
theorem walk {l : PySem.W.OpenLaw} {q : Program} {loose : List Str} {XP : (Str → Option Value) → Heap → Prop} {YP : World → Heap → Prop} {d : DefRec} {K : Params → PySem.W.Frag} (hn : l.most = some 63) (hdf : d.params.defaults = [])
    (hY : ∀ (w : World) (h : Heap), YP w h → (K w.params).In h)
    (F : ∀ (w : World) (mg : Str → Option Value) (fa : Addr) (h : Heap), (K w.params).In h → h.Ns mainGlobals mg → mg d.name = some (.ref fa) →
      ∃ fd : FuncData, (∀ (s : Shared) (u : Value), BindsTo s fd ⟨[u], []⟩ [("_law_script", u)]) ∧ ∀ base : Heap, (K w.params).In base → base.Ns mainGlobals mg → FnOk l.prog w (K w.params) mg base CX0 8 fa fd ["_law_script"] (spLaw (K w.params))) :
    PySem.W.WalkO q loose XP YP l.row.toRowW d [] (fun f vs => PySem.call f vs) :=
  L2.walk_of (n := 63) (k := 8) (x := "_law_script") (CX := fun _ => CX0) (sp := fun w => spLaw (K w.params)) hn (by decide) hdf ⟨rfl, by decide, by decide⟩ hY F (fun _ _ a ns hl _ hS => ⟨a, ns, rfl, hS, hl, fun _ => rfl⟩) fun _ _ _ _ _ z => z
end Sp

set_option Elab.async false
set_option linter.all false
set_option maxRecDepth 100000
open PySem PySem.W PyProof.Rows in
set_option maxRecDepth 100000 in
set_option maxHeartbeats 0 in
theorem PySem.Challenge.cw_spreadrow_k07_refused_holds : PySem.Challenge.rw_spreadrow_k07_refused.Holds := by
  w_on; o_law; k_head; (case hw => w_witness2)
  k_fill
  refine Sp.walk (l := PySem.Challenge.rw_spreadrow_k07_refused) rfl rfl (fun w h Y => PySem.W.kIn_of Y) ?F
  case F =>
    intro w mg fa h KX G hmg
    refine' Sp.all_mk KX G hmg ?a1 ?l1 ?c1 ?k1 ?a2 ?l2 ?c2 ?k2 ?a3 ?l3 ?c3 ?k3 ?a4 ?l4 ?c4 ?k4 ?a5 ?l5 ?c5 ?k5 ?a6 ?l6 ?c6 ?k6 ?a7 ?l7 ?c7 ?k7 ?a8 ?l8 ?c8 ?k8 ?a9 ?l9 ?c9 ?k9 ?a10 ?l10 ?c10 ?k10 ?a11 ?l11 ?c11 ?k11 ?a12 ?l12 ?c12 ?k12 ?a13 ?l13 ?c13 ?k13 ?a14 ?l14 ?c14 ?k14 ?a15 ?l15 ?c15 ?k15 ?a16 ?l16 ?c16 ?k16 ?a17 ?l17 ?c17 ?k17 ?a18 ?l18 ?c18 ?k18 ?z_isinstance ?z_int ?z_bool ?z_tuple ?z_list ?z_len ?z_sorted ?z_range ?z_sum ?z_min ?z_max ?z_any ?z_all ?z_abs ?z_str ?aCH ?aCB ?aCP ?aCT ?xCB ?kCB ?sCB ?tCB ?hgB ?hkB ?hdB ?haB ?hmB ?k1B ?k2B ?k3B ?k4B ?exB ?xCP ?kCP ?sCP ?tCP ?hgP ?hkP ?hdP ?haP ?hmP ?k1P ?k2P ?k3P ?k4P ?exP ?hnO ?htO ?zV
    (case a1 => first | k_is | k_exc | rfl)
    (case l1 => first | k_is | k_exc | rfl)
    (case c1 => first | k_is | k_exc | rfl)
    (case k1 => first | k_is | k_exc | rfl)
    (case a2 => first | k_is | k_exc | rfl)
    (case l2 => first | k_is | k_exc | rfl)
    (case c2 => first | k_is | k_exc | rfl)
    (case k2 => first | k_is | k_exc | rfl)
    (case a3 => first | k_is | k_exc | rfl)
    (case l3 => first | k_is | k_exc | rfl)
    (case c3 => first | k_is | k_exc | rfl)
    (case k3 => first | k_is | k_exc | rfl)
    (case a4 => first | k_is | k_exc | rfl)
    (case l4 => first | k_is | k_exc | rfl)
    (case c4 => first | k_is | k_exc | rfl)
    (case k4 => first | k_is | k_exc | rfl)
    (case a5 => first | k_is | k_exc | rfl)
    (case l5 => first | k_is | k_exc | rfl)
    (case c5 => first | k_is | k_exc | rfl)
    (case k5 => first | k_is | k_exc | rfl)
    (case a6 => first | k_is | k_exc | rfl)
    (case l6 => first | k_is | k_exc | rfl)
    (case c6 => first | k_is | k_exc | rfl)
    (case k6 => first | k_is | k_exc | rfl)
    (case a7 => first | k_is | k_exc | rfl)
    (case l7 => first | k_is | k_exc | rfl)
    (case c7 => first | k_is | k_exc | rfl)
    (case k7 => first | k_is | k_exc | rfl)
    (case a8 => first | k_is | k_exc | rfl)
    (case l8 => first | k_is | k_exc | rfl)
    (case c8 => first | k_is | k_exc | rfl)
    (case k8 => first | k_is | k_exc | rfl)
    (case a9 => first | k_is | k_exc | rfl)
    (case l9 => first | k_is | k_exc | rfl)
    (case c9 => first | k_is | k_exc | rfl)
    (case k9 => first | k_is | k_exc | rfl)
    (case a10 => first | k_is | k_exc | rfl)
    (case l10 => first | k_is | k_exc | rfl)
    (case c10 => first | k_is | k_exc | rfl)
    (case k10 => first | k_is | k_exc | rfl)
    (case a11 => first | k_is | k_exc | rfl)
    (case l11 => first | k_is | k_exc | rfl)
    (case c11 => first | k_is | k_exc | rfl)
    (case k11 => first | k_is | k_exc | rfl)
    (case a12 => first | k_is | k_exc | rfl)
    (case l12 => first | k_is | k_exc | rfl)
    (case c12 => first | k_is | k_exc | rfl)
    (case k12 => first | k_is | k_exc | rfl)
    (case a13 => first | k_is | k_exc | rfl)
    (case l13 => first | k_is | k_exc | rfl)
    (case c13 => first | k_is | k_exc | rfl)
    (case k13 => first | k_is | k_exc | rfl)
    (case a14 => first | k_is | k_exc | rfl)
    (case l14 => first | k_is | k_exc | rfl)
    (case c14 => first | k_is | k_exc | rfl)
    (case k14 => first | k_is | k_exc | rfl)
    (case a15 => first | k_is | k_exc | rfl)
    (case l15 => first | k_is | k_exc | rfl)
    (case c15 => first | k_is | k_exc | rfl)
    (case k15 => first | k_is | k_exc | rfl)
    (case a16 => first | k_is | k_exc | rfl)
    (case l16 => first | k_is | k_exc | rfl)
    (case c16 => first | k_is | k_exc | rfl)
    (case k16 => first | k_is | k_exc | rfl)
    (case a17 => first | k_is | k_exc | rfl)
    (case l17 => first | k_is | k_exc | rfl)
    (case c17 => first | k_is | k_exc | rfl)
    (case k17 => first | k_is | k_exc | rfl)
    (case a18 => first | k_is | k_exc | rfl)
    (case l18 => first | k_is | k_exc | rfl)
    (case c18 => first | k_is | k_exc | rfl)
    (case k18 => first | k_is | k_exc | rfl)
    (case z_isinstance => first | k_is | k_exc | rfl)
    (case z_int => first | k_is | k_exc | rfl)
    (case z_bool => first | k_is | k_exc | rfl)
    (case z_tuple => first | k_is | k_exc | rfl)
    (case z_list => first | k_is | k_exc | rfl)
    (case z_len => first | k_is | k_exc | rfl)
    (case z_sorted => first | k_is | k_exc | rfl)
    (case z_range => first | k_is | k_exc | rfl)
    (case z_sum => first | k_is | k_exc | rfl)
    (case z_min => first | k_is | k_exc | rfl)
    (case z_max => first | k_is | k_exc | rfl)
    (case z_any => first | k_is | k_exc | rfl)
    (case z_all => first | k_is | k_exc | rfl)
    (case z_abs => first | k_is | k_exc | rfl)
    (case z_str => first | k_is | k_exc | rfl)
    (case aCH => first | k_is | k_exc | rfl)
    (case aCB => first | k_is | k_exc | rfl)
    (case aCP => first | k_is | k_exc | rfl)
    (case aCT => first | k_is | k_exc | rfl)
    (case xCB => first | k_is | k_exc | rfl)
    (case kCB => first | k_is | k_exc | rfl)
    (case sCB => first | k_is | k_exc | rfl)
    (case tCB => first | k_is | k_exc | rfl)
    (case hgB => first | k_is | k_exc | rfl)
    (case hkB => first | k_is | k_exc | rfl)
    (case hdB => first | k_is | k_exc | rfl)
    (case haB => first | k_is | k_exc | rfl)
    (case hmB => first | k_is | k_exc | rfl)
    (case k1B => first | k_is | k_exc | rfl)
    (case k2B => first | k_is | k_exc | rfl)
    (case k3B => first | k_is | k_exc | rfl)
    (case k4B => first | k_is | k_exc | rfl)
    (case exB => first | k_is | k_exc | rfl)
    (case xCP => first | k_is | k_exc | rfl)
    (case kCP => first | k_is | k_exc | rfl)
    (case sCP => first | k_is | k_exc | rfl)
    (case tCP => first | k_is | k_exc | rfl)
    (case hgP => first | k_is | k_exc | rfl)
    (case hkP => first | k_is | k_exc | rfl)
    (case hdP => first | k_is | k_exc | rfl)
    (case haP => first | k_is | k_exc | rfl)
    (case hmP => first | k_is | k_exc | rfl)
    (case k1P => first | k_is | k_exc | rfl)
    (case k2P => first | k_is | k_exc | rfl)
    (case k3P => first | k_is | k_exc | rfl)
    (case k4P => first | k_is | k_exc | rfl)
    (case exP => first | k_is | k_exc | rfl)
    (case hnO => first | k_is | k_exc | rfl)
    (case htO => first | k_is | k_exc | rfl)
    (case zV => first | k_is | k_exc | rfl)
#print axioms PySem.Challenge.cw_spreadrow_k07_refused_holds

