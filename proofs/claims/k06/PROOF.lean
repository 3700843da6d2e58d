import PyProof.Rows.All
import Wide.All
import OpenK.AllK
import Wide.FinOn
import HandS.StrMore
import HandS.Text
import HandS.ForMost
import HandS.Evl
import HandS.Wide
import HandS.IsInst
import HandS.SortRule
import HandS.Steps
import HandS.Flow
import HandS.Style
import KE.Datum
import HandS.Comp
import HandS.HotCalls
import KE.GoesComp
import HandS.ForExc
import HandS.CallLocal
import HandS.ExcIs
import HandS.Conv
import HandS.FStr
import PySem.Challenge.RW_spreadrow_k06_written
set_option Elab.async false
namespace Mth
abbrev P2 := Int × Int

/-! ### a block: so many, whose places sum to so much -/
def bFirst (b : P2) : Int := (b.2 - b.1 * (b.1 + 1) / 2) / b.1 + 1
def bGap (b : P2) : Int := (b.1 + 1) * bFirst b + b.1 * (b.1 + 1) / 2 - b.2
def bLast (b : P2) : Int := bFirst b + b.1
def bParts (b : P2) : List P2 := if bGap b < bLast b then [(bFirst b, bGap b - 1), (bGap b + 1, bLast b)] else [(bFirst b, bGap b - 1)]
def bEnd (b : P2) : Int := if bGap b < bLast b then bLast b else bGap b - 1
def bAdd (a b : P2) : P2 := (a.1 + b.1, a.2 + b.2)

/-! ### pairs sorted -/
def leP (a b : P2) : Bool := decide (a.1 < b.1) || (decide (a.1 = b.1) && decide (a.2 ≤ b.2))
def insP (x : P2) : List P2 → List P2
  | [] => [x]
  | y :: r => if leP x y then x :: y :: r else y :: insP x r
def sortP : List P2 → List P2
  | [] => []
  | x :: r => insP x (sortP r)
theorem leP_total (a b : P2) : leP a b = true ∨ leP b a = true := by
  unfold leP
  simp only [Bool.or_eq_true, Bool.and_eq_true, decide_eq_true_eq]
  omega
theorem leP_trans {a b c : P2} (h : leP a b = true) (k : leP b c = true) : leP a c = true := by
  unfold leP at *
  simp only [Bool.or_eq_true, Bool.and_eq_true, decide_eq_true_eq] at *
  omega
theorem leP_anti {a b : P2} (h : leP a b = true) (k : leP b a = true) : a = b := by
  unfold leP at *
  simp only [Bool.or_eq_true, Bool.and_eq_true, decide_eq_true_eq] at *
  exact Prod.ext (by omega) (by omega)
theorem insP_perm (x : P2) : ∀ l : List P2, (insP x l).Perm (x :: l)
  | [] => List.Perm.refl _
  | y :: r => by
    unfold insP
    split
    · exact List.Perm.refl _
    · exact ((insP_perm x r).cons y).trans (List.Perm.swap x y r)
theorem sortP_perm : ∀ l : List P2, (sortP l).Perm l
  | [] => List.Perm.refl _
  | x :: r => (insP_perm x (sortP r)).trans ((sortP_perm r).cons x)
def Sd (l : List P2) : Prop := l.Pairwise fun a b => leP a b = true
theorem insP_sd (x : P2) : ∀ l : List P2, Sd l → Sd (insP x l)
  | [], _ => List.pairwise_singleton _ _
  | y :: r, h => by
    unfold insP
    obtain ⟨h1, h2⟩ := List.pairwise_cons.mp h
    split
    · rename_i e
      refine List.pairwise_cons.mpr ⟨fun z hz => ?_, h⟩
      rcases List.mem_cons.mp hz with rfl | hz
      · exact e
      · exact leP_trans e (h1 z hz)
    · rename_i e
      refine List.pairwise_cons.mpr ⟨fun z hz => ?_, insP_sd x r h2⟩
      rcases List.mem_cons.mp ((insP_perm x r).mem_iff.mp hz) with rfl | hz
      · exact (leP_total y z).resolve_right e
      · exact h1 z hz
theorem sortP_sd : ∀ l : List P2, Sd (sortP l)
  | [] => List.Pairwise.nil
  | x :: r => insP_sd x _ (sortP_sd r)
theorem sd_uniq : ∀ {l m : List P2}, Sd l → Sd m → l.Perm m → l = m
  | [], m, _, _, p => p.nil_eq
  | x :: l, [], _, _, p => absurd p.length_eq (by simp)
  | x :: l, y :: m, hl, hm, p => by
    obtain ⟨a1, a2⟩ := List.pairwise_cons.mp hl
    obtain ⟨b1, b2⟩ := List.pairwise_cons.mp hm
    have e : x = y := by
      rcases List.mem_cons.mp (p.mem_iff.mp List.mem_cons_self) with e | hx
      · exact e
      · rcases List.mem_cons.mp (p.mem_iff.mpr (List.mem_cons_self (a := y) (l := m))) with e | hy
        · exact e.symm
        · exact leP_anti (a1 y hy) (b1 x hx)
    subst e
    rw [sd_uniq a2 b2 p.cons_inv]
theorem sortP_eq {l m : List P2} (p : m.Perm l) (s : Sd m) : m = sortP l := sd_uniq s (sortP_sd l) (p.trans (sortP_perm l).symm)
theorem sortP_congr {l m : List P2} (p : l.Perm m) : sortP l = sortP m := sortP_eq ((sortP_perm l).trans p) (sortP_sd l)

/-! ### the stack of blocks (top first), the stretches (last first) -/
def push : List P2 → P2 → List P2
  | [], b => [b]
  | a :: r, b => if bFirst b ≤ bEnd a then push r (bAdd a b) else b :: a :: r
def pushH (st : List P2) (h : P2) : List P2 := if 0 < h.2 then push st (h.2, h.2 * h.1) else st
def stack (hs : List P2) : List P2 := (sortP hs).foldl pushH []
def join1 : List P2 → P2 → List P2
  | [], p => [p]
  | q :: r, p => if q.2 + 1 = p.1 then (q.1, p.2) :: r else p :: q :: r
def joins (ps : List P2) : List P2 := ps.foldl join1 []
def stretches (hs : List P2) : List P2 := (joins ((stack hs).reverse.flatMap bParts)).reverse

theorem stretches_congr {l m : List P2} (p : l.Perm m) : stretches l = stretches m := by
  unfold stretches stack
  rw [sortP_congr p]

theorem tri_even (n : Int) : 2 * (n * (n + 1) / 2) = n * (n + 1) := by
  have h : n * (n + 1) % 2 = 0 := by
    have : n % 2 = 0 ∨ n % 2 = 1 := by omega
    rcases this with h | h
    · rw [Int.mul_emod, h]; simp
    · have h2 : (n + 1) % 2 = 0 := by omega
      rw [Int.mul_emod, h2]; simp
  omega

theorem bGap_bounds {b : P2} (h : 0 < b.1) : bFirst b < bGap b ∧ bGap b ≤ bLast b := by
  obtain ⟨n, t⟩ := b
  simp only [bGap, bFirst, bLast] at *
  have e := tri_even n
  generalize n * (n + 1) / 2 = s at *
  have h1 := Int.mul_ediv_add_emod (t - s) n
  have h2 := Int.emod_nonneg (t - s) (show n ≠ 0 by omega)
  have h3 := Int.emod_lt_of_pos (t - s) h
  generalize (t - s) / n = q at *
  generalize (t - s) % n = r at *
  have : (n + 1) * (q + 1) = n * q + n + q + 1 := by grind
  constructor <;> omega
/-- what a block is, by its first place and its gap -/
structure Is (b : P2) (f g : Int) : Prop where
  pos : 0 < b.1
  lo : f < g
  hi : g ≤ f + b.1
  sum : 2 * b.2 = 2 * (b.1 + 1) * f + b.1 * (b.1 + 1) - 2 * g
theorem is_of {b : P2} (h : 0 < b.1) : Is b (bFirst b) (bGap b) := by
  obtain ⟨h1, h2⟩ := bGap_bounds h
  refine ⟨h, h1, h2, ?_⟩
  have e := tri_even b.1
  unfold bGap
  generalize b.1 * (b.1 + 1) / 2 = s at *
  grind
theorem Is.uniq {b : P2} {f g : Int} (h : Is b f g) : bFirst b = f ∧ bGap b = g := by
  obtain ⟨hp, l1, h1, s1⟩ := h
  obtain ⟨_, l2, h2, s2⟩ := is_of hp
  generalize bFirst b = f2 at *
  generalize bGap b = g2 at *
  obtain ⟨n, t⟩ := b
  simp only at *
  have e : n * (f2 - f) + (f2 - f) = g2 - g := by grind
  have e2 : f2 = f := by
    rcases Int.lt_trichotomy f2 f with q | q | q
    · have : n * (f2 - f) ≤ n * (-1) := Int.mul_le_mul_of_nonneg_left (by omega) (by omega)
      omega
    · exact q
    · have : n * 1 ≤ n * (f2 - f) := Int.mul_le_mul_of_nonneg_left (by omega) (by omega)
      omega
  subst e2
  refine ⟨rfl, ?_⟩
  have : n * (f2 - f2) = 0 := by simp
  omega
end Mth

set_option Elab.async false
namespace Mth
/-! ### sums over places side by side -/
def S (φ : Int → Int) (f : Int) : Nat → Int
  | 0 => 0
  | m + 1 => S φ f m + φ (f + m)
theorem S_left (φ : Int → Int) (f : Int) : ∀ m : Nat, S φ f (m + 1) = φ f + S φ (f + 1) m
  | 0 => by simp [S]
  | m + 1 => by
    show S φ f (m + 1) + φ (f + (m + 1 : Nat)) = φ f + (S φ (f + 1) m + φ (f + 1 + m))
    rw [S_left φ f m]
    have e : f + ((m + 1 : Nat) : Int) = f + 1 + m := by omega
    rw [e]
    omega
theorem S_add (φ : Int → Int) (f : Int) (m : Nat) : ∀ k : Nat, S φ f (m + k) = S φ f m + S φ (f + m) k
  | 0 => by simp [S]
  | k + 1 => by
    show S φ f (m + k) + φ (f + (m + k : Nat)) = S φ f m + (S φ (f + m) k + φ (f + m + k))
    rw [S_add φ f m k]
    have e : f + ((m + k : Nat) : Int) = f + m + k := by omega
    rw [e]
    omega
theorem S_congr {φ ψ : Int → Int} {f : Int} : ∀ {m : Nat}, (∀ x, f ≤ x → x < f + m → φ x = ψ x) → S φ f m = S ψ f m
  | 0, _ => rfl
  | m + 1, h => by
    show S φ f m + φ (f + m) = S ψ f m + ψ (f + m)
    rw [S_congr fun x a b => h x a (by omega), h (f + m) (by omega) (by omega)]
/-- n + 1 places from f on but g -/
def T (φ : Int → Int) (n f g : Int) : Int := S φ f (n + 1).toNat - φ g
theorem S_one (f : Int) : ∀ m : Nat, S (fun _ => 1) f m = m
  | 0 => rfl
  | m + 1 => by
    show S (fun _ => 1) f m + 1 = _
    rw [S_one f m]
    omega
theorem S_id (f : Int) : ∀ m : Nat, 2 * S (fun x => x) f m = m * (2 * f + m - 1)
  | 0 => by simp [S]
  | m + 1 => by
    show 2 * (S (fun x => x) f m + (f + m)) = _
    have := S_id f m
    have e : ((m + 1 : Nat) : Int) = m + 1 := by omega
    rw [e]
    grind
/-- what lies left of p, and how far -/
def ph (p x : Int) : Int := if x < p then p - x else 0
def Ph (p : Int) : Int → Int := fun x => ph p x
theorem ph4 {p a d x y : Int} (h1 : a ≤ x) (h2 : a ≤ y) (h : x + y = a + d) : ph p x + ph p y ≤ ph p a + ph p d := by
  unfold ph
  repeat' split
  all_goals omega

def BT (φ : Int → Int) (b : P2) : Int := T φ b.1 (bFirst b) (bGap b)
theorem BT_is {φ : Int → Int} {b : P2} {f g : Int} (h : Is b f g) : BT φ b = T φ b.1 f g := by
  obtain ⟨e1, e2⟩ := h.uniq
  unfold BT
  rw [e1, e2]
theorem toNat_succ {n : Int} (h : 0 ≤ n) : (n + 1).toNat = n.toNat + 1 := by omega

/-- one more put at y, on the block or just right of it -/
theorem add_chip {b : P2} {f g y : Int} (h : Is b f g) (h1 : f ≤ y) (h2 : y ≤ f + b.1 + 1) :
    ∃ f' g', Is (b.1 + 1, b.2 + y) f' g' ∧ (y < g → f' = f - 1) ∧ (g ≤ y → f' = f) ∧ (y < g → g < f + b.1 → g' < f' + b.1 + 1) ∧ (g < y → g' < f' + b.1 + 1) ∧ ∀ p, T (Ph p) b.1 f g + ph p y ≤ T (Ph p) (b.1 + 1) f' g' := by
  obtain ⟨hp, lo, hi, sm⟩ := h
  obtain ⟨n, t⟩ := b
  simp only at *
  have hm : (n + 1 + 1).toNat = (n + 1).toNat + 1 := by omega
  rcases Int.lt_trichotomy y g with q | q | q
  · refine ⟨f - 1, f - 1 + (g - y), ⟨by show 0 < n + 1; omega, by omega, by show f - 1 + (g - y) ≤ f - 1 + (n + 1); omega, ?_⟩, fun _ => rfl, fun z => absurd z (by omega), fun _ _ => by omega, fun _ => by omega, fun p => ?_⟩
    · show 2 * (t + y) = _
      grind
    · unfold T
      rw [hm, S_left, show f - 1 + 1 = f by omega]
      have := ph4 (p := p) (a := f - 1) (d := g) (x := y) (y := f - 1 + (g - y)) (by omega) (by omega) (by omega)
      show S (Ph p) f (n + 1).toNat - ph p g + ph p y ≤ ph p (f - 1) + S (Ph p) f (n + 1).toNat - ph p (f - 1 + (g - y))
      omega
  · subst q
    refine ⟨f, f + n + 1, ⟨by show 0 < n + 1; omega, by omega, by show f + n + 1 ≤ f + (n + 1); omega, ?_⟩, fun z => absurd z (by omega), fun _ => rfl, fun z => absurd z (by omega), fun z => absurd z (by omega), fun p => ?_⟩
    · show 2 * (t + y) = _
      grind
    · unfold T
      rw [hm]
      show S (Ph p) f (n + 1).toNat - ph p y + ph p y ≤ S (Ph p) f (n + 1).toNat + ph p (f + (n + 1).toNat) - ph p (f + n + 1)
      rw [show f + ((n + 1).toNat : Int) = f + n + 1 by omega]
      omega
  · refine ⟨f, f + n + 1 - (y - g), ⟨by show 0 < n + 1; omega, by omega, by show f + n + 1 - (y - g) ≤ f + (n + 1); omega, ?_⟩, fun z => absurd z (by omega), fun _ => rfl, fun z => absurd z (by omega), fun _ => by omega, fun p => ?_⟩
    · show 2 * (t + y) = _
      grind
    · unfold T
      rw [hm]
      have := ph4 (p := p) (a := g) (d := f + n + 1) (x := y) (y := f + n + 1 - (y - g)) (by omega) (by omega) (by omega)
      show S (Ph p) f (n + 1).toNat - ph p g + ph p y ≤ S (Ph p) f (n + 1).toNat + ph p (f + (n + 1).toNat) - ph p (f + n + 1 - (y - g))
      rw [show f + ((n + 1).toNat : Int) = f + n + 1 by omega]
      omega
/-- the last place that is taken -/
def en (n f g : Int) : Int := if g < f + n then f + n else g - 1
theorem bEnd_is {b : P2} {f g : Int} (h : Is b f g) : bEnd b = en b.1 f g := by
  obtain ⟨e1, e2⟩ := h.uniq
  unfold bEnd en bLast
  rw [e1, e2]
/-- k more put side by side from y on; w: how far beyond the block y may lie (0 or 1) -/
theorem add_run {w : Int} (hw : w = 0 ∨ w = 1) : ∀ (k : Nat) {b : P2} {f g y : Int}, Is b f g → f ≤ y → y ≤ f + b.1 + w →
    ∃ f' g', Is (b.1 + k, b.2 + S (fun x => x) y k) f' g' ∧ f' ≤ f ∧ en b.1 f g ≤ en (b.1 + k) f' g' ∧ (0 < k → y + k - 1 ≤ en (b.1 + k) f' g') ∧ y + k ≤ f' + (b.1 + k) + w ∧ ∀ p, T (Ph p) b.1 f g + S (Ph p) y k ≤ T (Ph p) (b.1 + k) f' g'
  | 0, b, f, g, y, h, h1, h2 => ⟨f, g, by
      show Is (b.1 + ((0 : Nat) : Int), b.2 + 0) f g
      rw [Int.add_zero, show b.1 + ((0 : Nat) : Int) = b.1 by omega]
      exact h, by omega, by rw [show b.1 + ((0 : Nat) : Int) = b.1 by omega]; omega, fun z => absurd z (by omega), by omega, fun p => by
      rw [show b.1 + ((0 : Nat) : Int) = b.1 by omega]
      simp [S]⟩
  | k + 1, b, f, g, y, h, h1, h2 => by
    obtain ⟨f1, g1, i1, c1, c2, c3, c4, le1⟩ := add_chip h h1 (by omega)
    have nx : y + 1 ≤ f1 + (b.1 + 1) + w := by
      have := h.hi
      rcases Int.lt_or_le y g with q | q
      · have := c1 q; omega
      · have := c2 q; omega
    have lo1 : f1 ≤ y + 1 := by
      rcases Int.lt_or_le y g with q | q
      · have := c1 q; omega
      · have := c2 q; omega
    obtain ⟨f2, g2, i2, a1, a2, a3, a4, le2⟩ := add_run hw k (b := (b.1 + 1, b.2 + y)) i1 lo1 nx
    have ek : b.1 + ((k + 1 : Nat) : Int) = b.1 + 1 + (k : Int) := by omega
    have eS : b.2 + S (fun x => x) y (k + 1) = b.2 + y + S (fun x => x) (y + 1) k := by
      rw [S_left]
      omega
    rw [ek, eS]
    simp only at i2 a1 a2 a3 a4 le2
    have l1 := h.lo
    have l2 := h.hi
    have l3 := i1.lo
    have l4 : g1 ≤ f1 + (b.1 + 1) := i1.hi
    have e1 : en b.1 f g ≤ en (b.1 + 1) f1 g1 := by
      unfold en
      rcases Int.lt_trichotomy y g with q | q | q
      · have := c1 q
        by_cases z : g < f + b.1
        · have := c3 q z
          rw [if_pos z, if_pos (by omega)]; omega
        · rw [if_neg z]
          split <;> omega
      · have := c2 (by omega)
        have hs := i1.sum
        split <;> split <;> first | omega | (have hs := i1.sum; have hs2 := h.sum; simp only at hs; exfalso; grind)
      · have := c2 (by omega)
        have := c4 q
        rw [if_pos (show g1 < f1 + (b.1 + 1) by omega)]
        split <;> omega
    refine ⟨f2, g2, i2, ?_, by omega, fun _ => ?_, by omega, fun p => ?_⟩
    · rcases Int.lt_or_le y g with q | q
      · have := c1 q; omega
      · have := c2 q; omega
    · cases k with
      | zero =>
        -- y itself is reached
        have : y ≤ en (b.1 + 1) f1 g1 := by
          unfold en
          rcases Int.lt_trichotomy y g with q | q | q
          · have := c1 q
            split <;> omega
          · have := c2 (by omega)
            split
            · omega
            · omega
          · have := c2 (by omega)
            have := c4 q
            rw [if_pos (show g1 < f1 + (b.1 + 1) by omega)]
            omega
        have := a2
        omega
      | succ k =>
        have := a3 (by omega)
        omega
    · have x1 := le1 p
      have x2 := le2 p
      rw [S_left]
      show T (Ph p) b.1 f g + (ph p y + S (Ph p) (y + 1) k) ≤ _
      omega

theorem T_split {b : P2} {f g : Int} (h : Is b f g) (φ : Int → Int) : T φ b.1 f g = S φ f (g - f).toNat + S φ (g + 1) (f + b.1 - g).toNat := by
  obtain ⟨hp, lo, hi, _⟩ := h
  unfold T
  have e : (b.1 + 1).toNat = (g - f).toNat + ((f + b.1 - g).toNat + 1) := by omega
  rw [e, S_add, S_left, show f + ((g - f).toNat : Int) = g by omega]
  omega
theorem T_id {b : P2} {f g : Int} (h : Is b f g) : T (fun x => x) b.1 f g = b.2 := by
  obtain ⟨hp, lo, hi, sm⟩ := h
  unfold T
  have := S_id f (b.1 + 1).toNat
  have e : ((b.1 + 1).toNat : Int) = b.1 + 1 := by omega
  rw [e] at this
  grind
theorem T_one {b : P2} {f g : Int} (h : Is b f g) : T (fun _ => 1) b.1 f g = b.1 := by
  have := h.pos
  show S (fun _ => 1) f (b.1 + 1).toNat - 1 = b.1
  rw [S_one]
  omega
theorem bAdd_comm (a b : P2) : bAdd a b = bAdd b a := by
  unfold bAdd
  rw [Int.add_comm a.1, Int.add_comm a.2]
theorem merge_lr {a b : P2} {fa ga fb gb : Int} (ha : Is a fa ga) (hb : Is b fb gb) (h1 : fa ≤ fb) (h2 : fb ≤ en a.1 fa ga) :
    ∃ f g, Is (bAdd a b) f g ∧ f ≤ fa ∧ en a.1 fa ga ≤ en (bAdd a b).1 f g ∧ en b.1 fb gb ≤ en (bAdd a b).1 f g ∧ ∀ p, T (Ph p) a.1 fa ga + T (Ph p) b.1 fb gb ≤ T (Ph p) (bAdd a b).1 f g := by
  have lb := hb.lo
  have ub := hb.hi
  have pb := hb.pos
  have la := ha.lo
  have ua := ha.hi
  have h3 : fb ≤ fa + a.1 + 0 := by
    unfold en at h2
    split at h2 <;> omega
  obtain ⟨f1, g1, i1, a1, a2, a3, a4, le1⟩ := add_run (w := 0) (.inl rfl) (gb - fb).toNat ha h1 h3
  have a3 := a3 (by omega)
  obtain ⟨f2, g2, i2, c1, c2, c3, c4, le2⟩ := add_run (w := 1) (.inr rfl) (fb + b.1 - gb).toNat (y := gb + 1) i1 (by omega) (by show gb + 1 ≤ f1 + (a.1 + ((gb - fb).toNat : Int)) + 1; omega)
  simp only at i2 c1 c2 c3 c4 le2
  have e1 : a.1 + ((gb - fb).toNat : Int) + ((fb + b.1 - gb).toNat : Int) = a.1 + b.1 := by omega
  have ti := T_split hb (fun x => x)
  rw [T_id hb] at ti
  have e2 : a.2 + S (fun x => x) fb (gb - fb).toNat + S (fun x => x) (gb + 1) (fb + b.1 - gb).toNat = a.2 + b.2 := by omega
  rw [e1, e2] at i2
  rw [e1] at c2 c3 c4 le2
  refine ⟨f2, g2, i2, by omega, ?_, ?_, fun p => ?_⟩
  · show _ ≤ en (a.1 + b.1) f2 g2
    omega
  · show _ ≤ en (a.1 + b.1) f2 g2
    unfold en at a3 ⊢
    by_cases z : gb < fb + b.1
    · have := c3 (by omega)
      unfold en at this
      rw [if_pos z]
      omega
    · unfold en at c2
      rw [if_neg z]
      omega
  · have x1 := le1 p
    have x2 := le2 p
    rw [T_split hb]
    show _ ≤ T (Ph p) (a.1 + b.1) f2 g2
    omega
/-- two blocks that meet -/
theorem merge_any {a b : P2} {fa ga fb gb : Int} (ha : Is a fa ga) (hb : Is b fb gb) (h1 : fa ≤ en b.1 fb gb) (h2 : fb ≤ en a.1 fa ga) :
    ∃ f g, Is (bAdd a b) f g ∧ f ≤ fa ∧ f ≤ fb ∧ en a.1 fa ga ≤ en (bAdd a b).1 f g ∧ en b.1 fb gb ≤ en (bAdd a b).1 f g ∧ ∀ p, T (Ph p) a.1 fa ga + T (Ph p) b.1 fb gb ≤ T (Ph p) (bAdd a b).1 f g := by
  rcases Int.le_total fa fb with q | q
  · obtain ⟨f, g, i, z1, z2, z3, z4⟩ := merge_lr ha hb q h2
    exact ⟨f, g, i, z1, by omega, z2, z3, z4⟩
  · obtain ⟨f, g, i, z1, z2, z3, z4⟩ := merge_lr hb ha q h1
    rw [bAdd_comm b a] at i z2 z3 z4
    exact ⟨f, g, i, by omega, z1, z3, z2, fun p => by have := z4 p; omega⟩
/-- the same by the program's words -/
theorem merge {a b : P2} (pa : 0 < a.1) (pb : 0 < b.1) (h1 : bFirst a ≤ bEnd b) (h2 : bFirst b ≤ bEnd a) :
    0 < (bAdd a b).1 ∧ bFirst (bAdd a b) ≤ bFirst a ∧ bFirst (bAdd a b) ≤ bFirst b ∧ bEnd a ≤ bEnd (bAdd a b) ∧ bEnd b ≤ bEnd (bAdd a b) ∧ ∀ p, BT (Ph p) a + BT (Ph p) b ≤ BT (Ph p) (bAdd a b) := by
  have ia := is_of pa
  have ib := is_of pb
  rw [bEnd_is ib] at h1
  rw [bEnd_is ia] at h2
  obtain ⟨f, g, i, z1, z2, z3, z4, z5⟩ := merge_any ia ib h1 h2
  obtain ⟨e1, e2⟩ := i.uniq
  rw [bEnd_is ia, bEnd_is ib, bEnd_is i, e1]
  refine ⟨i.pos, z1, z2, z3, z4, fun p => ?_⟩
  rw [BT_is ia, BT_is ib, BT_is i]
  exact z5 p
/-- one heap -/
theorem heap_block (p : Int) : ∀ k : Nat, ∃ f g, Is ((k : Int) + 1, ((k : Int) + 1) * p) f g ∧ f ≤ p ∧ p ≤ en ((k : Int) + 1) f g ∧ ∀ q, ((k : Int) + 1) * ph q p ≤ T (Ph q) ((k : Int) + 1) f g
  | 0 => ⟨p, p + 1, ⟨by show (0 : Int) < 0 + 1; omega, by omega, by show p + 1 ≤ p + (0 + 1); omega, by show 2 * ((0 + 1) * p) = _; grind⟩, by omega, by unfold en; split <;> omega, fun q => by
      unfold T
      show (0 + 1) * ph q p ≤ S (Ph q) p 2 - ph q (p + 1)
      simp [S, Ph]⟩
  | k + 1 => by
    obtain ⟨f, g, i, h1, h2, h3⟩ := heap_block p k
    have l2 := i.hi
    obtain ⟨f', g', i', a1, a2, a3, _, a5⟩ := add_run (w := 0) (.inl rfl) 1 i h1 (by
      unfold en at h2
      simp only at l2 ⊢
      split at h2 <;> omega)
    have eS : S (fun x => x) p 1 = p := by simp [S]
    have e1 : ((k + 1 : Nat) : Int) = (k : Int) + ((1 : Nat) : Int) := by omega
    have e2 : ((k : Int) + 1) * p + p = ((k : Int) + 1 + 1) * p := by grind
    rw [eS] at i'
    simp only [e2] at i'
    refine ⟨f', g', i', by omega, ?_, fun q => ?_⟩
    · have := a3 (by omega)
      have e : p + ((1 : Nat) : Int) - 1 = p := by omega
      rw [e] at this
      exact this
    · have x := h3 q
      have y := a5 q
      have eq : S (Ph q) p 1 = ph q p := by simp [S, Ph]
      rw [eq] at y
      have e3 : ((k : Int) + ((1 : Nat) : Int) + 1) * ph q p = ((k : Int) + 1) * ph q p + ph q p := by
        have e4 : ((1 : Nat) : Int) = 1 := rfl
        rw [e4]
        grind
      rw [e1, e3]
      refine Int.le_trans (Int.add_le_add_right x _) ?_
      exact y
theorem heap_one {n p : Int} (h : 0 < n) : bFirst (n, n * p) ≤ p ∧ p ≤ bEnd (n, n * p) ∧ ∀ q, n * ph q p ≤ BT (Ph q) (n, n * p) := by
  obtain ⟨k, rfl⟩ : ∃ k : Nat, n = (k : Int) + 1 := ⟨(n - 1).toNat, by omega⟩
  obtain ⟨f, g, i, h1, h2, h3⟩ := heap_block p k
  obtain ⟨e1, e2⟩ := i.uniq
  rw [bEnd_is i, e1]
  refine ⟨h1, h2, fun q => ?_⟩
  rw [BT_is i]
  exact h3 q
end Mth

set_option Elab.async false
namespace Mth
theorem S_right {q f : Int} : ∀ {m : Nat}, f + m - 1 ≤ q → S (Ph q) f m = q * m - S (fun x => x) f m
  | 0, _ => by simp [S]
  | m + 1, h => by
    have ih := S_right (q := q) (f := f) (m := m) (by omega)
    show S (Ph q) f m + ph q (f + m) = q * ((m + 1 : Nat) : Int) - (S (fun x => x) f m + (f + m))
    rw [ih]
    have e : ((m + 1 : Nat) : Int) = (m : Int) + 1 := by omega
    have e2 : ph q (f + m) = q - (f + m) := by unfold ph; split <;> omega
    rw [e, e2]
    grind
theorem S_leftz {q f : Int} (h : q ≤ f) : ∀ {m : Nat}, S (Ph q) f m = 0
  | 0 => rfl
  | m + 1 => by
    show S (Ph q) f m + ph q (f + m) = 0
    rw [S_leftz h]
    unfold ph
    split <;> omega
theorem BT_left {b : P2} {q : Int} (h : 0 < b.1) (hq : q ≤ bFirst b) : BT (Ph q) b = 0 := by
  have i := is_of h
  rw [BT_is i, T_split i, S_leftz hq, S_leftz (by have := i.lo; omega)]
  rfl
theorem BT_right {b : P2} {q : Int} (h : 0 < b.1) (hq : bEnd b ≤ q) : BT (Ph q) b = q * b.1 - b.2 := by
  have i := is_of h
  have l1 := i.lo
  have l2 := i.hi
  rw [bEnd_is i] at hq
  rw [BT_is i, T_split i]
  have ti := T_split i (fun x => x)
  rw [T_id i] at ti
  have t1 := T_split i (fun _ => 1)
  rw [T_one i, S_one, S_one] at t1
  unfold en at hq
  rw [S_right (by split at hq <;> omega)]
  have e2 : S (Ph q) (bGap b + 1) (bFirst b + b.1 - bGap b).toNat = q * ((bFirst b + b.1 - bGap b).toNat : Int) - S (fun x => x) (bGap b + 1) (bFirst b + b.1 - bGap b).toNat := by
    by_cases z : bGap b < bFirst b + b.1
    · rw [if_pos z] at hq
      exact S_right (by omega)
    · rw [show (bFirst b + b.1 - bGap b).toNat = 0 by omega]
      simp [S]
  rw [e2, ti]
  generalize (bGap b - bFirst b).toNat = m1 at *
  generalize (bFirst b + b.1 - bGap b).toNat = m2 at *
  rw [t1]
  grind
theorem bFirst_le_end {b : P2} (h : 0 < b.1) : bFirst b ≤ bEnd b := by
  obtain ⟨h1, h2⟩ := bGap_bounds h
  unfold bEnd
  split <;> omega
/-- q lies not inside of b -/
def Out (q : Int) (b : P2) : Prop := q ≤ bFirst b ∨ bEnd b ≤ q
theorem BT_out {a b c : P2} {q : Int} (ha : 0 < a.1) (hb : 0 < b.1) (hc : c = bAdd a b) (h1 : bFirst c ≤ bFirst a) (h2 : bFirst c ≤ bFirst b) (h3 : bEnd a ≤ bEnd c) (h4 : bEnd b ≤ bEnd c) (o : Out q c) : BT (Ph q) c = BT (Ph q) a + BT (Ph q) b := by
  subst hc
  have pc : 0 < (bAdd a b).1 := by show 0 < a.1 + b.1; omega
  rcases o with o | o
  · rw [BT_left pc o, BT_left ha (by omega), BT_left hb (by omega)]; rfl
  · rw [BT_right pc o, BT_right ha (by omega), BT_right hb (by omega)]
    show q * (a.1 + b.1) - (a.2 + b.2) = _
    grind
/-! ### the stack -/
def sm (F : P2 → Int) (l : List P2) : Int := (l.map F).sum
theorem sm_nil (F : P2 → Int) : sm F [] = 0 := rfl
theorem sm_cons (F : P2 → Int) (a : P2) (l : List P2) : sm F (a :: l) = F a + sm F l := by unfold sm; rw [List.map_cons, List.sum_cons]
theorem sm_append (F : P2 → Int) (l m : List P2) : sm F (l ++ m) = sm F l + sm F m := by unfold sm; rw [List.map_append, List.sum_append]
theorem sm_perm (F : P2 → Int) {l m : List P2} (h : l.Perm m) : sm F l = sm F m := by
  induction h with
  | nil => rfl
  | cons x _ ih => rw [sm_cons, sm_cons, ih]
  | swap x y l => rw [sm_cons, sm_cons, sm_cons, sm_cons]; omega
  | trans _ _ h1 h2 => exact h1.trans h2
structure Stk (st : List P2) (pm : Int) : Prop where
  pos : ∀ b ∈ st, 0 < b.1
  sep : st.Pairwise fun a b => bEnd b < bFirst a
  fst : ∀ b ∈ st, bFirst b ≤ pm
theorem push_ok : ∀ {st : List P2} {b : P2} {pm : Int}, Stk st pm → 0 < b.1 → bFirst b ≤ pm → (∀ a ∈ st, bFirst a ≤ bEnd b) →
    Stk (push st b) pm ∧ sm (·.1) (push st b) = sm (·.1) st + b.1 ∧ sm (·.2) (push st b) = sm (·.2) st + b.2 ∧ (∀ q, sm (BT (Ph q)) st + BT (Ph q) b ≤ sm (BT (Ph q)) (push st b)) ∧
    (∀ a, a = b ∨ a ∈ st → ∃ c ∈ push st b, bFirst c ≤ bFirst a ∧ bEnd a ≤ bEnd c) ∧ (∀ q, (∀ c ∈ push st b, Out q c) → sm (BT (Ph q)) (push st b) = sm (BT (Ph q)) st + BT (Ph q) b)
  | [], b, pm, s, hb, hf, _ => by
    refine ⟨⟨fun c hc => ?_, List.pairwise_singleton _ _, fun c hc => ?_⟩, ?_, ?_, fun q => ?_, fun a ha => ?_, fun q _ => ?_⟩
    · rcases List.mem_singleton.mp hc with rfl; exact hb
    · rcases List.mem_singleton.mp hc with rfl; exact hf
    · show sm (·.1) [b] = _; rw [sm_cons, sm_nil]; omega
    · show sm (·.2) [b] = _; rw [sm_cons, sm_nil]; omega
    · show _ ≤ sm _ [b]; rw [sm_cons, sm_nil]; omega
    · rcases ha with rfl | ha
      · exact ⟨a, List.mem_singleton.mpr rfl, by omega, by omega⟩
      · exact nomatch ha
    · show sm _ [b] = _; rw [sm_cons, sm_nil]; omega
  | a :: r, b, pm, s, hb, hf, hx => by
    obtain ⟨p1, p2, p3⟩ := s
    obtain ⟨q1, q2⟩ := List.pairwise_cons.mp p2
    have pa := p1 a List.mem_cons_self
    unfold push
    split
    · rename_i hm
      obtain ⟨m1, m2, m3, m4, m5, m6⟩ := merge pa hb (hx a List.mem_cons_self) hm
      have fa := p3 a List.mem_cons_self
      obtain ⟨i1, i2, i3, i4, i5, i6⟩ := push_ok (st := r) (b := bAdd a b) (pm := pm) ⟨fun c hc => p1 c (List.mem_cons_of_mem _ hc), q2, fun c hc => p3 c (List.mem_cons_of_mem _ hc)⟩ m1 (by omega) (fun c hc => by
        have := q1 c hc
        have := bFirst_le_end (p1 c (List.mem_cons_of_mem _ hc))
        have := bFirst_le_end pa
        omega)
      refine ⟨i1, ?_, ?_, fun q => ?_, fun c hc => ?_, fun q hq => ?_⟩
      · rw [i2, sm_cons]
        show sm (·.1) r + (a.1 + b.1) = a.1 + sm (·.1) r + b.1
        omega
      · rw [i3, sm_cons]
        show sm (·.2) r + (a.2 + b.2) = a.2 + sm (·.2) r + b.2
        omega
      · have := i4 q
        have := m6 q
        rw [sm_cons]
        omega
      · obtain ⟨d, d1, d2, d3⟩ := i5 (bAdd a b) (.inl rfl)
        rcases hc with rfl | hc
        · exact ⟨d, d1, by omega, by omega⟩
        · rcases List.mem_cons.mp hc with rfl | hc
          · exact ⟨d, d1, by omega, by omega⟩
          · exact i5 c (.inr hc)
      · obtain ⟨d, d1, d2, d3⟩ := i5 (bAdd a b) (.inl rfl)
        have o : Out q (bAdd a b) := by
          rcases hq d d1 with z | z
          · exact .inl (by omega)
          · exact .inr (by omega)
        rw [i6 q hq, sm_cons, BT_out pa hb rfl m2 m3 m4 m5 o]
        omega
    · rename_i hm
      refine ⟨⟨fun c hc => ?_, List.pairwise_cons.mpr ⟨fun c hc => ?_, p2⟩, fun c hc => ?_⟩, ?_, ?_, fun q => ?_, fun c hc => ?_, fun q _ => ?_⟩
      · rcases List.mem_cons.mp hc with rfl | hc
        · exact hb
        · exact p1 c hc
      · rcases List.mem_cons.mp hc with rfl | hc
        · omega
        · have := q1 c hc
          have := bFirst_le_end pa
          omega
      · rcases List.mem_cons.mp hc with rfl | hc
        · exact hf
        · exact p3 c hc
      · rw [sm_cons]; omega
      · rw [sm_cons]; omega
      · rw [sm_cons (BT (Ph q)) b]; omega
      · refine ⟨c, ?_, by omega, by omega⟩
        rcases hc with rfl | hc
        · exact List.mem_cons_self
        · exact List.mem_cons_of_mem _ hc
      · rw [sm_cons (BT (Ph q)) b]; omega
/-- what heaps weigh -/
def hp (φ : Int → Int) (h : P2) : Int := h.2 * φ h.1
structure Stk2 (st hs : List P2) (pm : Int) : Prop where
  ok : Stk st pm
  cnt : sm (·.1) st = sm (·.2) hs
  tot : sm (·.2) st = sm (fun h => h.2 * h.1) hs
  le : ∀ q, sm (hp (Ph q)) hs ≤ sm (BT (Ph q)) st
  out : ∀ q, (∀ c ∈ st, Out q c) → sm (BT (Ph q)) st = sm (hp (Ph q)) hs
  cov : ∀ h ∈ hs, 0 < h.2 → ∃ c ∈ st, bFirst c ≤ h.1 ∧ h.1 ≤ bEnd c
theorem pushH_ok {st hs : List P2} {pm : Int} {h : P2} (s : Stk2 st hs pm) (h0 : 0 ≤ h.2) (hp1 : pm ≤ h.1) : Stk2 (pushH st h) (hs ++ [h]) h.1 := by
  obtain ⟨⟨p1, p2, p3⟩, c1, c2, c3, c4, c5⟩ := s
  have ok' : Stk st h.1 := ⟨p1, p2, fun b hb => by have := p3 b hb; omega⟩
  unfold pushH
  split
  · rename_i hc
    obtain ⟨z1, z2, z3⟩ := heap_one (p := h.1) hc
    obtain ⟨i1, i2, i3, i4, i5, i6⟩ := push_ok (b := (h.2, h.2 * h.1)) ok' hc z1 (fun a ha => by have := p3 a ha; omega)
    refine ⟨i1, ?_, ?_, fun q => ?_, fun q hq => ?_, fun k hk pk => ?_⟩
    · rw [i2, sm_append, sm_cons, sm_nil, c1]; simp
    · rw [i3, sm_append, sm_cons, sm_nil, c2]; simp
    · have := i4 q
      have := c3 q
      have := z3 q
      rw [sm_append, sm_cons, sm_nil]
      show _ + (h.2 * ph q h.1 + 0) ≤ _
      omega
    · rw [i6 q hq, sm_append, sm_cons, sm_nil, c4 q fun c hc => ?_]
      · obtain ⟨d, d1, d2, d3⟩ := i5 _ (.inl rfl)
        show _ + BT (Ph q) (h.2, h.2 * h.1) = _ + (h.2 * ph q h.1 + 0)
        rcases hq d d1 with z | z
        · rw [BT_left hc (by omega)]
          have : ph q h.1 = 0 := by unfold ph; split <;> omega
          rw [this]; simp
        · rw [BT_right hc (by omega)]
          have : ph q h.1 = q - h.1 := by unfold ph; split <;> omega
          rw [this]
          show sm (hp (Ph q)) hs + (q * h.2 - h.2 * h.1) = _
          grind
      · obtain ⟨d, d1, d2, d3⟩ := i5 c (.inr hc)
        rcases hq d d1 with z | z
        · exact .inl (by omega)
        · exact .inr (by omega)
    · rcases List.mem_append.mp hk with hk | hk
      · obtain ⟨c, e1, e2, e3⟩ := c5 k hk pk
        obtain ⟨d, d1, d2, d3⟩ := i5 c (.inr e1)
        exact ⟨d, d1, by omega, by omega⟩
      · rcases List.mem_singleton.mp hk with rfl
        obtain ⟨d, d1, d2, d3⟩ := i5 _ (.inl rfl)
        exact ⟨d, d1, by omega, by omega⟩
  · have e : h.2 = 0 := by omega
    refine ⟨ok', ?_, ?_, fun q => ?_, fun q hq => ?_, fun k hk pk => ?_⟩
    · rw [sm_append, sm_cons, sm_nil, c1, e]; simp
    · rw [sm_append, sm_cons, sm_nil, c2, e]; simp
    · have := c3 q
      rw [sm_append, sm_cons, sm_nil]
      show _ + (h.2 * ph q h.1 + 0) ≤ _
      rw [e]; simp; omega
    · rw [c4 q hq, sm_append, sm_cons, sm_nil]
      show _ = _ + (h.2 * ph q h.1 + 0)
      rw [e]; simp
    · rcases List.mem_append.mp hk with hk | hk
      · exact c5 k hk pk
      · rcases List.mem_singleton.mp hk with rfl
        omega
theorem foldl_ok : ∀ {l st hs : List P2} {pm : Int}, Stk2 st hs pm → (∀ h ∈ l, 0 ≤ h.2) → (∀ h ∈ l, pm ≤ h.1) → Sd l → ∃ pm', Stk2 (l.foldl pushH st) (hs ++ l) pm'
  | [], st, hs, pm, s, _, _, _ => ⟨pm, by rw [List.append_nil]; exact s⟩
  | x :: r, st, hs, pm, s, h0, h1, sd => by
    obtain ⟨s1, s2⟩ := List.pairwise_cons.mp sd
    have := pushH_ok s (h0 x List.mem_cons_self) (h1 x List.mem_cons_self)
    obtain ⟨pm', z⟩ := foldl_ok this (fun h hh => h0 h (List.mem_cons_of_mem _ hh)) (fun h hh => by
      have := s1 h hh
      unfold leP at this
      simp only [Bool.or_eq_true, Bool.and_eq_true, decide_eq_true_eq] at this
      omega) s2
    rw [List.append_assoc] at z
    exact ⟨pm', z⟩
/-- heaps as they may be told -/
def Ok (hs : List P2) : Prop := ∀ h ∈ hs, 0 ≤ h.2
theorem Ok.perm {l m : List P2} (h : Ok l) (p : m.Perm l) : Ok m := fun x hx => h x (p.mem_iff.mp hx)
theorem stack_ok {hs : List P2} (h : Ok hs) : ∃ pm, Stk2 (stack hs) hs pm := by
  have hs' : Ok (sortP hs) := h.perm (sortP_perm hs)
  have bound : ∃ pm, ∀ x ∈ sortP hs, pm ≤ x.1 := by
    cases e : sortP hs with
    | nil => exact ⟨0, fun x hx => nomatch hx⟩
    | cons a r =>
      refine ⟨a.1, fun x hx => ?_⟩
      have sd := sortP_sd hs
      rw [e] at sd
      obtain ⟨s1, _⟩ := List.pairwise_cons.mp sd
      rcases List.mem_cons.mp hx with rfl | hx
      · omega
      · have := s1 x hx
        unfold leP at this
        simp only [Bool.or_eq_true, Bool.and_eq_true, decide_eq_true_eq] at this
        omega
  obtain ⟨pm, hpm⟩ := bound
  have s0 : Stk2 [] [] pm := ⟨⟨(fun _ h => nomatch h), List.Pairwise.nil, (fun _ h => nomatch h)⟩, rfl, rfl, (fun _ => Int.le_refl _), (fun _ _ => rfl), (fun _ h => nomatch h)⟩
  obtain ⟨pm', c0, c1, c2, c3, c4, c5⟩ := foldl_ok s0 hs' hpm (sortP_sd hs)
  rw [List.nil_append] at c1 c2 c3 c4 c5
  have p := sortP_perm hs
  refine ⟨pm', c0, ?_, ?_, fun q => ?_, fun q hq => ?_, fun k hk => ?_⟩
  · rw [← sm_perm _ p]; exact c1
  · rw [← sm_perm _ p]; exact c2
  · rw [← sm_perm _ p]; exact c3 q
  · rw [← sm_perm _ p]; exact c4 q hq
  · exact c5 k (p.mem_iff.mpr hk)
end Mth

set_option Elab.async false
namespace Mth
/-! ### stretches: sums over them, which places they have -/
def ov (φ : Int → Int) (p : P2) : Int := S φ p.1 (p.2 - p.1 + 1).toNat
theorem ov_parts {b : P2} (h : 0 < b.1) (φ : Int → Int) : sm (ov φ) (bParts b) = BT φ b := by
  have i := is_of h
  have l1 := i.lo
  have l2 := i.hi
  rw [BT_is i, T_split i]
  unfold bParts bLast
  split
  · rename_i c
    rw [sm_cons, sm_cons, sm_nil]
    unfold ov
    simp only
    rw [show bGap b - 1 - bFirst b + 1 = bGap b - bFirst b by omega, show bFirst b + b.1 - (bGap b + 1) + 1 = bFirst b + b.1 - bGap b by omega]
    omega
  · rename_i c
    rw [sm_cons, sm_nil]
    unfold ov
    simp only
    rw [show bGap b - 1 - bFirst b + 1 = bGap b - bFirst b by omega, show (bFirst b + b.1 - bGap b).toNat = 0 by omega]
    simp [S]
/-- in their turn, none empty -/
structure Tn (ps : List P2) : Prop where
  ne : ∀ p ∈ ps, p.1 ≤ p.2
  up : ps.Pairwise fun a b => a.2 < b.1
/-- and with a place between -/
structure Can (ps : List P2) : Prop where
  ne : ∀ p ∈ ps, p.1 ≤ p.2
  up : ps.Pairwise fun a b => a.2 + 1 < b.1
theorem parts_in {b p : P2} (h : 0 < b.1) (hp : p ∈ bParts b) : bFirst b ≤ p.1 ∧ p.1 ≤ p.2 ∧ p.2 ≤ bEnd b := by
  obtain ⟨h1, h2⟩ := bGap_bounds h
  unfold bParts at hp
  unfold bEnd
  split at hp
  · rename_i c
    rw [if_pos c]
    rcases List.mem_cons.mp hp with rfl | hp
    · simp only; omega
    · rcases List.mem_singleton.mp hp with rfl
      simp only; omega
  · rename_i c
    rw [if_neg c]
    rcases List.mem_singleton.mp hp with rfl
    simp only; omega
theorem parts_tn {b : P2} (h : 0 < b.1) : Tn (bParts b) := by
  refine ⟨fun p hp => (parts_in h hp).2.1, ?_⟩
  unfold bParts
  split
  · refine List.pairwise_cons.mpr ⟨fun q hq => ?_, List.pairwise_singleton _ _⟩
    rcases List.mem_singleton.mp hq with rfl
    simp only; omega
  · exact List.pairwise_singleton _ _
theorem flat_tn : ∀ {bs : List P2}, (∀ b ∈ bs, 0 < b.1) → (bs.Pairwise fun a b => bEnd a < bFirst b) → Tn (bs.flatMap bParts)
  | [], _, _ => ⟨(fun _ h => nomatch h), List.Pairwise.nil⟩
  | b :: r, h, hp => by
    obtain ⟨s1, s2⟩ := List.pairwise_cons.mp hp
    have hb := h b List.mem_cons_self
    obtain ⟨a1, a2⟩ := parts_tn hb
    obtain ⟨r1, r2⟩ := flat_tn (bs := r) (fun c hc => h c (List.mem_cons_of_mem _ hc)) s2
    rw [List.flatMap_cons]
    refine ⟨fun p hp => ?_, List.pairwise_append.mpr ⟨a2, r2, fun p hp q hq => ?_⟩⟩
    · rcases List.mem_append.mp hp with hp | hp
      · exact a1 p hp
      · exact r1 p hp
    · obtain ⟨c, hc, hq⟩ := List.mem_flatMap.mp hq
      have x1 := parts_in hb hp
      have x2 := parts_in (h c (List.mem_cons_of_mem _ hc)) hq
      have x3 := s1 c hc
      omega
theorem ov_flat (φ : Int → Int) : ∀ {bs : List P2}, (∀ b ∈ bs, 0 < b.1) → sm (ov φ) (bs.flatMap bParts) = sm (BT φ) bs
  | [], _ => rfl
  | b :: r, h => by
    rw [List.flatMap_cons, sm_append, sm_cons, ov_parts (h b List.mem_cons_self), ov_flat φ fun c hc => h c (List.mem_cons_of_mem _ hc)]
/-- joined, the last first -/
structure CanR (J : List P2) : Prop where
  ne : ∀ p ∈ J, p.1 ≤ p.2
  up : J.Pairwise fun a b => b.2 + 1 < a.1
theorem join1_ok {J : List P2} {p : P2} (h : CanR J) (hp : p.1 ≤ p.2) (hl : ∀ q ∈ J, q.2 < p.1) : CanR (join1 J p) ∧ (∀ q ∈ join1 J p, q.2 ≤ p.2) ∧ ∀ φ, sm (ov φ) (join1 J p) = sm (ov φ) J + ov φ p := by
  cases J with
  | nil =>
    refine ⟨⟨fun q hq => ?_, List.pairwise_singleton _ _⟩, fun q hq => ?_, fun φ => ?_⟩
    · rcases List.mem_singleton.mp hq with rfl; exact hp
    · rcases List.mem_singleton.mp hq with rfl; exact Int.le_refl _
    · show sm (ov φ) [p] = _
      rw [sm_cons, sm_nil]; omega
  | cons q r =>
    obtain ⟨n1, u1⟩ := h
    obtain ⟨v1, v2⟩ := List.pairwise_cons.mp u1
    have hq := n1 q List.mem_cons_self
    have hqp := hl q List.mem_cons_self
    rw [show join1 (q :: r) p = if q.2 + 1 = p.1 then (q.1, p.2) :: r else p :: q :: r from rfl]
    split
    · rename_i c
      refine ⟨⟨fun z hz => ?_, List.pairwise_cons.mpr ⟨fun z hz => v1 z hz, v2⟩⟩, fun z hz => ?_, fun φ => ?_⟩
      · rcases List.mem_cons.mp hz with rfl | hz
        · show q.1 ≤ p.2; omega
        · exact n1 z (List.mem_cons_of_mem _ hz)
      · rcases List.mem_cons.mp hz with rfl | hz
        · exact Int.le_refl _
        · have := hl z (List.mem_cons_of_mem _ hz); omega
      · rw [sm_cons, sm_cons]
        have e : ov φ (q.1, p.2) = ov φ q + ov φ p := by
          unfold ov
          simp only
          rw [show (p.2 - q.1 + 1).toNat = (q.2 - q.1 + 1).toNat + (p.2 - p.1 + 1).toNat by omega, S_add, show q.1 + ((q.2 - q.1 + 1).toNat : Int) = p.1 by omega]
        rw [e]; omega
    · rename_i c
      refine ⟨⟨fun z hz => ?_, List.pairwise_cons.mpr ⟨fun z hz => ?_, u1⟩⟩, fun z hz => ?_, fun φ => ?_⟩
      · rcases List.mem_cons.mp hz with rfl | hz
        · exact hp
        · exact n1 z hz
      · rcases List.mem_cons.mp hz with rfl | hz
        · omega
        · have := v1 z hz; omega
      · rcases List.mem_cons.mp hz with rfl | hz
        · exact Int.le_refl _
        · have := hl z hz; omega
      · rw [sm_cons]; omega
theorem joins_ok : ∀ {ps J : List P2}, CanR J → Tn ps → (∀ q ∈ J, ∀ p ∈ ps, q.2 < p.1) → CanR (ps.foldl join1 J) ∧ ∀ φ, sm (ov φ) (ps.foldl join1 J) = sm (ov φ) J + sm (ov φ) ps
  | [], J, h, _, _ => ⟨h, fun φ => by rw [sm_nil]; show sm (ov φ) J = _; omega⟩
  | p :: r, J, h, t, hl => by
    obtain ⟨n1, u1⟩ := t
    obtain ⟨v1, v2⟩ := List.pairwise_cons.mp u1
    obtain ⟨j1, j2, j3⟩ := join1_ok h (n1 p List.mem_cons_self) fun q hq => hl q hq p List.mem_cons_self
    obtain ⟨k1, k2⟩ := joins_ok (ps := r) (J := join1 J p) j1 ⟨fun z hz => n1 z (List.mem_cons_of_mem _ hz), v2⟩ fun q hq z hz => by
      have := j2 q hq
      have := v1 z hz
      omega
    refine ⟨k1, fun φ => ?_⟩
    rw [List.foldl_cons, k2, j3, sm_cons]; omega
theorem sm_rev (F : P2 → Int) (l : List P2) : sm F l.reverse = sm F l := sm_perm F (List.reverse_perm l)
theorem stretches_ok {hs : List P2} (h : Ok hs) : Can (stretches hs) ∧ ∀ φ, sm (ov φ) (stretches hs) = sm (BT φ) (stack hs) := by
  obtain ⟨pm, s⟩ := stack_ok h
  have pos : ∀ b ∈ (stack hs).reverse, 0 < b.1 := fun b hb => s.ok.pos b (List.mem_reverse.mp hb)
  have sep : (stack hs).reverse.Pairwise fun a b => bEnd a < bFirst b := List.pairwise_reverse.mpr s.ok.sep
  obtain ⟨j1, j2⟩ := joins_ok (ps := (stack hs).reverse.flatMap bParts) (J := []) ⟨(fun _ h => nomatch h), List.Pairwise.nil⟩ (flat_tn pos sep) (fun _ h => nomatch h)
  refine ⟨⟨fun p hp => j1.ne p (List.mem_reverse.mp hp), List.pairwise_reverse.mpr j1.up⟩, fun φ => ?_⟩
  unfold stretches
  rw [sm_rev]
  show sm (ov φ) (joins _) = _
  unfold joins
  rw [j2, ov_flat φ pos, sm_rev, sm_nil, Int.zero_add]
theorem ov_one {p : P2} (h : p.1 ≤ p.2) : ov (fun _ => 1) p = p.2 - p.1 + 1 := by unfold ov; rw [S_one]; omega
theorem ov_id {p : P2} (h : p.1 ≤ p.2) : 2 * ov (fun x => x) p = (p.1 + p.2) * (p.2 - p.1 + 1) := by
  unfold ov
  rw [S_id]
  have e : ((p.2 - p.1 + 1).toNat : Int) = p.2 - p.1 + 1 := by omega
  rw [e]
  grind
theorem sm_congr {F G : P2 → Int} : ∀ {l : List P2}, (∀ p ∈ l, F p = G p) → sm F l = sm G l
  | [], _ => rfl
  | x :: r, h => by rw [sm_cons, sm_cons, h x List.mem_cons_self, sm_congr fun p hp => h p (List.mem_cons_of_mem _ hp)]
theorem sm_scale (k : Int) (F : P2 → Int) : ∀ l : List P2, sm (fun p => k * F p) l = k * sm F l
  | [] => by simp [sm]
  | x :: r => by rw [sm_cons, sm_cons, sm_scale k F r, Int.mul_add]
theorem sm_addF (F G : P2 → Int) : ∀ l : List P2, sm (fun p => F p + G p) l = sm F l + sm G l
  | [] => rfl
  | x :: r => by rw [sm_cons, sm_cons, sm_cons, sm_addF F G r]; omega
theorem BT_one {b : P2} (h : 0 < b.1) : BT (fun _ => 1) b = b.1 := by rw [BT_is (is_of h), T_one (is_of h)]
theorem BT_id {b : P2} (h : 0 < b.1) : BT (fun x => x) b = b.2 := by rw [BT_is (is_of h), T_id (is_of h)]
theorem stretch_count {hs : List P2} (h : Ok hs) : sm (fun p => p.2 - p.1 + 1) (stretches hs) = sm (·.2) hs := by
  obtain ⟨c, e⟩ := stretches_ok h
  obtain ⟨pm, s⟩ := stack_ok h
  rw [← sm_congr (F := ov fun _ => 1) fun p hp => ov_one (c.ne p hp), e, sm_congr (G := (·.1)) fun b hb => BT_one (s.ok.pos b hb), s.cnt]
theorem stretch_total {hs : List P2} (h : Ok hs) : sm (fun p => (p.1 + p.2) * (p.2 - p.1 + 1)) (stretches hs) = 2 * sm (fun h => h.1 * h.2) hs := by
  obtain ⟨c, e⟩ := stretches_ok h
  obtain ⟨pm, s⟩ := stack_ok h
  rw [← sm_congr (F := fun p => 2 * ov (fun x => x) p) fun p hp => ov_id (c.ne p hp), sm_scale, e, sm_congr (F := BT fun x => x) (G := (·.2)) fun b hb => BT_id (s.ok.pos b hb), s.tot, sm_congr (F := fun h => h.2 * h.1) (G := fun h => h.1 * h.2) fun p _ => Int.mul_comm _ _]
/-- has the place one? -/
def hasB (ps : List P2) (x : Int) : Bool := ps.any fun p => decide (p.1 ≤ x) && decide (x ≤ p.2)
/-! ### the law's own way -/
def groups (hs : List P2) : List P2 := ((sortP hs).filter fun h => decide (0 < h.2)).map fun h => (h.2, h.2 * h.1)
theorem groups_stack (hs : List P2) : (groups hs).foldl push [] = stack hs := by
  unfold groups stack
  generalize sortP hs = l
  generalize ([] : List P2) = st
  induction l generalizing st with
  | nil => rfl
  | cons x r ih =>
    by_cases c : 0 < x.2
    · rw [List.filter_cons_of_pos (by simpa using c), List.map_cons, List.foldl_cons, List.foldl_cons, ih]
      congr 1
      unfold pushH
      rw [if_pos c]
    · rw [List.filter_cons_of_neg (by simpa using c), List.foldl_cons, ih]
      congr 1
      unfold pushH
      rw [if_neg c]
theorem law_first {n t : Int} (h : 0 < n) : bFirst (n, t) = (2 * t - n * (n - 1)) / (2 * n) ∧
    bGap (n, t) = (2 * t - n * (n - 1)) / (2 * n) + n - (t - n * ((2 * t - n * (n - 1)) / (2 * n)) - n * (n - 1) / 2) ∧
    (n * ((2 * t - n * (n - 1)) / (2 * n)) + n * (n - 1) / 2 = t ↔ bGap (n, t) = bLast (n, t)) := by
  have e : 2 * (n * (n - 1) / 2) = n * (n - 1) := by
    have := tri_even (n - 1)
    rw [show n - 1 + 1 = n by omega, Int.mul_comm (n - 1) n] at this
    exact this
  generalize hs : n * (n - 1) / 2 = s at *
  have e2 : 2 * t - n * (n - 1) = 2 * (t - s) := by omega
  rw [e2, Int.mul_ediv_mul_of_pos _ _ (by decide)]
  have h1 := Int.mul_ediv_add_emod (t - s) n
  have h2 := Int.emod_nonneg (t - s) (show n ≠ 0 by omega)
  have h3 := Int.emod_lt_of_pos (t - s) h
  generalize (t - s) / n = q at *
  generalize (t - s) % n = r at *
  have hr : t - n * q - s = r := by omega
  rw [hr]
  by_cases z : r = 0
  · have i : Is (n, t) q (q + n) := ⟨h, by omega, by show q + n ≤ q + n; omega, by show 2 * t = 2 * (n + 1) * q + n * (n + 1) - 2 * (q + n); grind⟩
    obtain ⟨a1, a2⟩ := i.uniq
    unfold bLast
    rw [a1, a2]
    refine ⟨rfl, by omega, ?_⟩
    constructor <;> intro _ <;> (try simp only) <;> omega
  · have i : Is (n, t) q (q + n - r) := ⟨h, by omega, by show q + n - r ≤ q + n; omega, by show 2 * t = 2 * (n + 1) * q + n * (n + 1) - 2 * (q + n - r); grind⟩
    obtain ⟨a1, a2⟩ := i.uniq
    unfold bLast
    rw [a1, a2]
    refine ⟨rfl, by omega, ?_⟩
    constructor <;> intro _ <;> (try simp only at *) <;> omega
end Mth

set_option Elab.async false
set_option linter.all false
namespace Mth
open PySem
/-! ### texts of figures (for the law of texts) -/
def Fig (c : Nat) : Prop := 48 ≤ c ∧ c ≤ 57
theorem numText_fig {l : List Nat} (h : ∀ c ∈ l, c < 128) : numTextOf ⟨l.toArray⟩ = l := by
  unfold numTextOf
  have : (l.toArray.all fun x => decide (x < 128)) = true := by
    rw [List.all_toArray]
    exact List.all_eq_true.mpr fun c hc => decide_eq_true (h c hc)
  simp only [this, if_true]
theorem takeW {p : Nat → Bool} : ∀ {l : List Nat}, (∀ c ∈ l, p c = true) → l.takeWhile p = l
  | [], _ => rfl
  | a :: r, h => by rw [List.takeWhile_cons, h a List.mem_cons_self, if_pos rfl, takeW fun c hc => h c (List.mem_cons_of_mem _ hc)]
theorem dropW {p : Nat → Bool} {l : List Nat} (h : ∀ c ∈ l, p c = false) : l.dropWhile p = l := by
  cases l with
  | nil => rfl
  | cons a r => rw [List.dropWhile_cons, h a List.mem_cons_self]; rfl
theorem digit_fig : ∀ c : Nat, c < 128 → 48 ≤ c → c ≤ 57 → NumText.digit? c = some (c - 48) := by decide +kernel
theorem step_fig {c : Nat} (h : Fig c) (ds : Array Nat) (b : Bool) : NumText.step 10 (ds, b) c = some (ds.push (c - 48), true) := by
  obtain ⟨h1, h2⟩ := h
  unfold NumText.step
  rw [if_neg (by simp; omega), digit_fig c (by omega) h1 h2]
  simp only
  rw [if_pos (by omega)]
theorem fold_fig : ∀ (l : List Nat) (ds : Array Nat) (b : Bool), (∀ c ∈ l, Fig c) → l ≠ [] → l.foldlM (NumText.step 10) (ds, b) = some (ds ++ (l.map (· - 48)).toArray, true)
  | [c], ds, b, h, _ => by
    rw [List.foldlM_cons, step_fig (h c List.mem_cons_self)]
    simp
  | c :: d :: r, ds, b, h, _ => by
    rw [List.foldlM_cons, step_fig (h c List.mem_cons_self)]
    show (d :: r).foldlM (NumText.step 10) (ds.push (c - 48), true) = _
    rw [fold_fig (d :: r) _ _ (fun x hx => h x (List.mem_cons_of_mem _ hx)) (by simp)]
    simp
/-- what figures are worth -/
def figV (l : List Nat) : Nat := l.foldl (fun a c => a * 10 + (c - 48)) 0
theorem core_fig {l : List Nat} (h : ∀ c ∈ l, Fig c) : NumText.sign (l.dropWhile NumText.blank) = (false, l) ∧ NumText.core l = l := by
  have nb : ∀ c, Fig c → NumText.blank c = false := fun c hc => by
    obtain ⟨h1, h2⟩ := hc
    unfold NumText.blank
    rw [Bool.or_eq_false_iff, Bool.and_eq_false_iff]
    exact ⟨by simp; omega, .inr (decide_eq_false (by omega))⟩
  have e1 : l.dropWhile NumText.blank = l := dropW fun c hc => nb c (h c hc)
  have e2 : NumText.sign l = (false, l) := by
    cases l with
    | nil => rfl
    | cons c r =>
      obtain ⟨h1, h2⟩ := h c List.mem_cons_self
      unfold NumText.sign
      split
      · rename_i q; injection q with q _; omega
      · rename_i q; injection q with q _; omega
      · rfl
  refine ⟨by rw [e1, e2], ?_⟩
  unfold NumText.core
  rw [e1, e2]
  simp only
  rw [dropW fun c hc => nb c (h c (List.mem_reverse.mp hc)), List.reverse_reverse]
theorem intText_fig {l : List Nat} (h : ∀ c ∈ l, Fig c) (hn : l ≠ []) (hl : l.length ≤ 60) : intText? ⟨l.toArray⟩ = some (figV l : Int) := by
  have a := numText_fig (l := l) fun c hc => by have := h c hc; unfold Fig at this; omega
  have b : numSeenOf ⟨l.toArray⟩ = l := by
    unfold numSeenOf
    rw [a]
    exact takeW fun c hc => by have := h c hc; unfold Fig at this; simp; omega
  obtain ⟨c1, c2⟩ := core_fig h
  unfold intText?
  rw [b, a, if_pos (by simp), c2]
  unfold NumText.digits?
  rw [fold_fig l _ _ h hn]
  simp only [Option.bind_some, if_true]
  rw [if_pos (by simp; omega), c1]
  unfold NumText.worth
  simp only [Bool.false_eq_true, if_false]
  congr 2
  unfold figV
  simp [List.foldl_map]
theorem intText_neg {l : List Nat} (h : ∀ c ∈ l, Fig c) (hn : l ≠ []) (hl : l.length ≤ 60) : intText? ⟨(45 :: l).toArray⟩ = some (-(figV l : Int)) := by
  have hf : ∀ c ∈ 45 :: l, 45 ≤ c ∧ c ≤ 57 := fun c hc => by
    rcases List.mem_cons.mp hc with rfl | hc
    · omega
    · have := h c hc; unfold Fig at this; omega
  have a := numText_fig (l := 45 :: l) fun c hc => by have := hf c hc; omega
  have b : numSeenOf ⟨(45 :: l).toArray⟩ = 45 :: l := by
    unfold numSeenOf
    rw [a]
    exact takeW fun c hc => by have := hf c hc; simp; omega
  have nb : ∀ c ∈ 45 :: l, NumText.blank c = false := fun c hc => by
    obtain ⟨h1, h2⟩ := hf c hc
    unfold NumText.blank
    rw [Bool.or_eq_false_iff, Bool.and_eq_false_iff]
    exact ⟨by simp; omega, .inr (decide_eq_false (by omega))⟩
  have e1 : (45 :: l).dropWhile NumText.blank = 45 :: l := dropW nb
  have e2 : NumText.sign (45 :: l) = (true, l) := rfl
  have e3 : NumText.core (45 :: l) = l := by
    unfold NumText.core
    rw [e1, e2]
    simp only
    rw [dropW fun c hc => nb c (List.mem_cons_of_mem _ (List.mem_reverse.mp hc)), List.reverse_reverse]
  unfold intText?
  rw [b, a, if_pos (by simp), e3]
  unfold NumText.digits?
  rw [fold_fig l _ _ h hn]
  simp only [Option.bind_some, if_true]
  rw [if_pos (by simp; omega), e1, e2]
  unfold NumText.worth
  simp only [if_true]
  congr 3
  unfold figV
  simp [List.foldl_map]
theorem figV_cons_pos : ∀ (l : List Nat) (a : Nat), 0 < a → 0 < l.foldl (fun a c => a * 10 + (c - 48)) a
  | [], a, h => h
  | c :: r, a, h => by
    rw [List.foldl_cons]
    exact figV_cons_pos r _ (by omega)
theorem figV_pos {c : Nat} {l : List Nat} (hc : Fig c) (h0 : c ≠ 48) : 0 < figV (c :: l) := by
  unfold figV
  rw [List.foldl_cons]
  unfold Fig at hc
  exact figV_cons_pos l _ (by omega)
theorem figV_snoc (l : List Nat) (c : Nat) : figV (l ++ [c]) = figV l * 10 + (c - 48) := by
  unfold figV
  rw [List.foldl_append]
  rfl
theorem digitC : ∀ d : Nat, d < 10 → Nat.digitChar d = Char.ofNat (d + 48) := by decide
theorem digits_fig : ∀ (n : Nat) (l : List Nat), l.length = n → (∀ c ∈ l, Fig c) → l ≠ [] → (l.length = 1 ∨ l.head? ≠ some 48) → Nat.toDigits 10 (figV l) = l.map Char.ofNat
  | 0, l, hn, _, h, _ => absurd (List.length_eq_zero_iff.mp hn) h
  | n + 1, l, hn, hf, hl, hc => by
    obtain ⟨r, c, rfl⟩ : ∃ r c, l = r ++ [c] := ⟨_, _, (List.dropLast_concat_getLast hl).symm⟩
    have fc := hf c (by simp)
    unfold Fig at fc
    rw [figV_snoc, List.map_append]
    by_cases hr : r = []
    · subst hr
      show Nat.toDigits 10 (0 * 10 + (c - 48)) = [Char.ofNat c]
      rw [Nat.zero_mul, Nat.zero_add, Nat.toDigits_of_lt_base (by omega), digitC _ (by omega), show c - 48 + 48 = c by omega]
    · have hr1 : 0 < r.length := List.length_pos_iff.mpr hr
      obtain ⟨d, r', rfl⟩ : ∃ d r', r = d :: r' := by
        cases r with
        | nil => exact absurd rfl hr
        | cons d r' => exact ⟨d, r', rfl⟩
      have hd : d ≠ 48 := fun z => by
        rcases hc with h | h
        · simp at h
        · exact h (by simp [z])
      have hpos := figV_pos (c := d) (l := r') (hf d (by simp)) hd
      rw [Nat.mul_comm, ← Nat.toDigits_append_toDigits (by omega) hpos (by omega), digits_fig n (d :: r') (by simp at hn ⊢; omega) (fun x hx => hf x (List.mem_append_left _ hx)) (by simp) (.inr (by simpa using hd)), Nat.toDigits_of_lt_base (by omega), digitC _ (by omega), show c - 48 + 48 = c by omega]
      rfl
theorem of_to : ∀ c : Nat, c < 128 → (Char.ofNat c).toNat = c := by decide
theorem text_fig {l : List Nat} (h : ∀ c ∈ l, Fig c) (hn : l ≠ []) (hc : l.length = 1 ∨ l.head? ≠ some 48) : Str.ofString (toString (figV l : Int)) = ⟨l.toArray⟩ := by
  have e : toString (figV l : Int) = String.ofList (l.map Char.ofNat) := by
    show String.ofList (Nat.toDigits 10 (figV l)) = _
    rw [digits_fig _ l rfl h hn hc]
  rw [e, Str.ofString_eq_toList, String.toList_ofList, List.map_map]
  congr 2
  have : ∀ l : List Nat, (∀ c ∈ l, Fig c) → l.map (Char.toNat ∘ Char.ofNat) = l := by
    intro l
    induction l with
    | nil => intro _; rfl
    | cons a r ih =>
      intro h
      rw [List.map_cons, ih fun c hc => h c (List.mem_cons_of_mem _ hc)]
      have := h a List.mem_cons_self
      unfold Fig at this
      rw [show (Char.toNat ∘ Char.ofNat) a = a from of_to a (by omega)]
  exact this l h
def figB (c : Nat) : Bool := decide (48 ≤ c) && decide (c ≤ 57)
theorem figB_iff {c : Nat} : figB c = true ↔ Fig c := by unfold figB Fig; simp
theorem uni_fig : ∀ c : Nat, c < 128 → Unicode.isDigit c = figB c := by decide +kernel
theorem isfig (l : List Nat) : (Txt.isascii ⟨l.toArray⟩ && Txt.isdigit ⟨l.toArray⟩) = (decide (0 < l.length) && l.all figB) := by
  have a : Txt.isascii ⟨l.toArray⟩ = l.all fun c => decide (c < 128) := by unfold Txt.isascii; rw [List.all_toArray]
  have b : Txt.isdigit ⟨l.toArray⟩ = (decide (0 < l.length) && l.all Unicode.isDigit) := by
    unfold Txt.isdigit
    rw [List.all_toArray]
    rfl
  rw [a, b, Bool.eq_iff_iff]
  simp only [Bool.and_eq_true, decide_eq_true_eq, List.all_eq_true]
  constructor
  · rintro ⟨h1, h2, h3⟩
    exact ⟨h2, fun c hc => by rw [← uni_fig c (h1 c hc)]; exact h3 c hc⟩
  · rintro ⟨h2, h3⟩
    have lt : ∀ c ∈ l, c < 128 := fun c hc => by have := figB_iff.mp (h3 c hc); unfold Fig at this; omega
    exact ⟨lt, h2, fun c hc => by rw [uni_fig c (lt c hc)]; exact h3 c hc⟩
theorem takeW_len {p : Nat → Bool} : ∀ {l : List Nat}, (l.takeWhile p).length = l.length → ∀ c ∈ l, p c = true
  | [], _, _, h => nomatch h
  | a :: r, h, c, hc => by
    by_cases e : p a = true
    · rw [List.takeWhile_cons, if_pos e, List.length_cons, List.length_cons] at h
      rcases List.mem_cons.mp hc with rfl | hc
      · exact e
      · exact takeW_len (by omega) c hc
    · rw [List.takeWhile_cons, if_neg e] at h
      simp at h
theorem takeW_le (p : Nat → Bool) (l : List Nat) : (l.takeWhile p).length ≤ l.length := (List.takeWhile_sublist p).length_le
theorem drop_takeW {p : Nat → Bool} : ∀ l : List Nat, (l.takeWhile p).length < l.length → ∃ c r, l.drop (l.takeWhile p).length = c :: r ∧ p c = false
  | [], h => by simp at h
  | a :: r, h => by
    by_cases e : p a = true
    · rw [List.takeWhile_cons, if_pos e] at h ⊢
      rw [List.length_cons] at h ⊢
      rw [List.drop_succ_cons]
      exact drop_takeW r (by simp at h; omega)
    · rw [List.takeWhile_cons, if_neg e]
      exact ⟨a, r, rfl, by simpa using e⟩
theorem strip_all (y : Str) (l : List Nat) : Txt.stripChars ⟨l.toArray⟩ y = ⟨#[]⟩ ↔ ∀ c ∈ l, y.cps.contains c = true := by
  have lo : stripLo y.cps.contains true ⟨l.toArray⟩ = (l.takeWhile y.cps.contains).length := by unfold stripLo; simp
  have hi : stripHi y.cps.contains true ⟨l.toArray⟩ (l.takeWhile y.cps.contains).length = l.length - ((l.drop (l.takeWhile y.cps.contains).length).reverse.takeWhile y.cps.contains).length := by unfold stripHi; rw [if_pos rfl]; rfl
  unfold Txt.stripChars Txt.stripBy stripSame stripped
  rw [lo, hi]
  generalize y.cps.contains = p at *
  have le := takeW_le p l
  by_cases all : (l.takeWhile p).length = l.length
  · have ha := takeW_len all
    refine ⟨fun _ => ha, fun _ => ?_⟩
    rw [all]
    simp only [List.drop_length, List.reverse_nil, List.takeWhile_nil, List.length_nil, Nat.sub_zero]
    split
    · rename_i h
      simp at h
      rw [h.1]
    · unfold Builtin.Str.strSub
      simp
  · obtain ⟨c, r, e1, e2⟩ := drop_takeW (p := p) l (by omega)
    have nall : ¬ ∀ c ∈ l, p c = true := fun h => by
      have := h c (List.mem_of_mem_drop (e1 ▸ List.mem_cons_self))
      rw [e2] at this
      cases this
    refine ⟨fun h => ?_, fun h => absurd h nall⟩
    exfalso
    have hl : (l.drop (l.takeWhile p).length).length = l.length - (l.takeWhile p).length := List.length_drop
    have tl : ((l.drop (l.takeWhile p).length).reverse.takeWhile p).length < (l.drop (l.takeWhile p).length).length := by
      have q1 := takeW_le p (l.drop (l.takeWhile p).length).reverse
      rw [List.length_reverse] at q1
      apply Classical.byContradiction
      intro z
      have q2 := takeW_len (p := p) (l := (l.drop (l.takeWhile p).length).reverse) (by rw [List.length_reverse]; omega) c (by rw [e1]; simp)
      rw [e2] at q2
      cases q2
    have h := congrArg (fun s : Str => s.cps.size) h
    simp only at h
    split at h
    · simp at h
      rw [h] at le all
      simp at all
    · unfold Builtin.Str.strSub at h
      simp at h
      omega
end Mth

set_option Elab.async false
set_option linter.all false
namespace Mth
open PySem TL
/-! ### texts of heaps, read and written -/
def okFig (l : List Nat) : Bool := decide (0 < l.length) && l.all figB && decide (l.length ≤ 60) && (decide (l.head? ≠ some 48) || decide (l = [48]))
def numF (w : Str) : Option Int := if okFig (tl w) then some (figV (tl w) : Int) else none
def negF : List Nat → Option Int
  | [] => none
  | c :: r => if c = 45 then (if okFig r && decide (figV r ≠ 0) then some (-(figV r : Int)) else none) else (if okFig (c :: r) then some (figV (c :: r) : Int) else none)
def placeF (w : Str) : Option Int := negF (tl w)
def wordF (w : Str) : Option P2 := (placeF (Txt.partition w ":").1).bind fun p => (numF (Txt.partition w ":").2.2).bind fun c => some (p, c)
def wordsF : List Str → Option (List P2)
  | [] => some []
  | w :: r => (wordF w).bind fun q => (wordsF r).bind fun qs => some (q :: qs)
def readF (t : Str) : Option (List P2) := if t = "-" then some [] else wordsF (Txt.split t " ")
def wordT (q : P2) : Str := Str.ofString (toString q.1) ++ ":" ++ Str.ofString (toString q.2)
def textF (ps : List P2) : Str := if ps = [] then "-" else Txt.join " " (ps.map wordT)
def fit60 (q : P2) : Bool := decide (q.1.natAbs < 10 ^ 60) && decide (q.2.natAbs < 10 ^ 60)
theorem okFig_iff {l : List Nat} : okFig l = true ↔ l ≠ [] ∧ (∀ c ∈ l, Fig c) ∧ l.length ≤ 60 ∧ (l.length = 1 ∨ l.head? ≠ some 48) := by
  unfold okFig
  simp only [Bool.and_eq_true, Bool.or_eq_true, decide_eq_true_eq, List.all_eq_true, figB_iff]
  constructor
  · rintro ⟨⟨⟨h1, h2⟩, h3⟩, h4⟩
    refine ⟨List.length_pos_iff.mp h1, h2, h3, ?_⟩
    rcases h4 with h4 | h4
    · exact .inr h4
    · exact .inl (by rw [h4]; rfl)
  · rintro ⟨h1, h2, h3, h4⟩
    refine ⟨⟨⟨List.length_pos_iff.mpr h1, h2⟩, h3⟩, ?_⟩
    by_cases e : l.head? = some 48
    · rcases h4 with h4 | h4
      · right
        cases l with
        | nil => cases e
        | cons a r =>
          cases r with
          | nil => simp at e; rw [e]
          | cons b r => simp at h4
      · exact absurd e h4
    · exact .inl e
theorem figV_lt : ∀ (n : Nat) (l : List Nat), l.length = n → (∀ c ∈ l, Fig c) → figV l < 10 ^ n
  | 0, l, hn, _ => by
    rw [List.length_eq_zero_iff.mp hn]
    decide
  | n + 1, l, hn, hf => by
    have hl : l ≠ [] := fun e => by rw [e] at hn; cases hn
    obtain ⟨r, c, rfl⟩ : ∃ r c, l = r ++ [c] := ⟨_, _, (List.dropLast_concat_getLast hl).symm⟩
    have ih := figV_lt n r (by simp at hn; omega) fun x hx => hf x (List.mem_append_left _ hx)
    have fc := hf c (by simp)
    unfold Fig at fc
    rw [figV_snoc, Nat.pow_succ]
    omega
theorem figV_60 {l : List Nat} (hf : ∀ c ∈ l, Fig c) (hl : l.length ≤ 60) : figV l < 10 ^ 60 := Nat.lt_of_lt_of_le (figV_lt _ l rfl hf) (Nat.pow_le_pow_right (by decide) hl)
theorem num_back {w : Str} {n : Int} (h : numF w = some n) : Str.ofString (toString n) = w ∧ 0 ≤ n ∧ n.natAbs < 10 ^ 60 := by
  unfold numF at h
  split at h
  · rename_i ok
    obtain ⟨h1, h2, h3, h4⟩ := okFig_iff.mp ok
    injection h with h
    subst h
    refine ⟨?_, Int.natCast_nonneg _, by rw [Int.natAbs_natCast]; exact figV_60 h2 h3⟩
    rw [text_fig h2 h1 h4, mk_tl]
  · cases h
theorem toString_negInt (n : Nat) (h : n ≠ 0) : toString (-(n : Int)) = "-" ++ toString (n : Int) := by
  obtain ⟨m, rfl⟩ : ∃ m, n = m + 1 := ⟨n - 1, by omega⟩
  rfl
theorem place_back {w : Str} {n : Int} (h : placeF w = some n) : Str.ofString (toString n) = w ∧ n.natAbs < 10 ^ 60 := by
  unfold placeF at h
  cases e : tl w with
  | nil => rw [e] at h; cases h
  | cons c r =>
    rw [e] at h
    unfold negF at h
    simp only at h
    split at h
    · rename_i hc
      subst hc
      split at h
      · rename_i ok
        simp only [Bool.and_eq_true, decide_eq_true_eq] at ok
        obtain ⟨h1, h2, h3, h4⟩ := okFig_iff.mp ok.1
        injection h with h
        subst h
        refine ⟨?_, by rw [Int.natAbs_neg, Int.natAbs_natCast]; exact figV_60 h2 h3⟩
        refine ext_tl ?_
        rw [toString_negInt _ ok.2, tl_ofString, String.toList_append, List.map_append, ← tl_ofString (toString (figV r : Int)), text_fig h2 h1 h4, e]
        rfl
      · cases h
    · split at h
      · rename_i ok
        obtain ⟨h1, h2, h3, h4⟩ := okFig_iff.mp ok
        injection h with h
        subst h
        refine ⟨?_, by rw [Int.natAbs_natCast]; exact figV_60 h2 h3⟩
        rw [text_fig h2 h1 h4, ← e, mk_tl]
      · cases h
theorem numF_empty : numF Str.empty = none := rfl
theorem word_back {w : Str} {q : P2} (h : wordF w = some q) : wordT q = w ∧ 0 ≤ q.2 ∧ fit60 q = true := by
  unfold wordF at h
  cases hp : placeF (Txt.partition w ":").1 with
  | none => rw [hp] at h; cases h
  | some p =>
    cases hc : numF (Txt.partition w ":").2.2 with
    | none => rw [hp, hc] at h; cases h
    | some c =>
      rw [hp, hc] at h
      injection h with h
      subst h
      obtain ⟨p1, p2⟩ := place_back hp
      obtain ⟨c1, c2, c3⟩ := num_back hc
      refine ⟨?_, c2, by unfold fit60; rw [decide_eq_true p2, decide_eq_true c3]; rfl⟩
      have s := PySem.StrLaws.partition_sum w ":"
      have m : (Txt.partition w ":").2.1 = ":" := by
        rcases PyProof.Rows.partition_whole w ":" with ⟨e, _⟩ | ⟨i, e, _⟩
        · rw [e] at hc
          cases hc
        · rw [e]
      unfold wordT
      show Str.ofString (toString p) ++ ":" ++ Str.ofString (toString c) = w
      rw [m] at s
      rw [p1, c1]
      exact s
theorem words_back : ∀ {ws : List Str} {ps : List P2}, wordsF ws = some ps → ps.map wordT = ws ∧ (∀ q ∈ ps, 0 ≤ q.2) ∧ ps.all fit60 = true
  | [], ps, h => by
    injection h with h
    subst h
    exact ⟨rfl, (fun _ z => nomatch z), rfl⟩
  | w :: r, ps, h => by
    unfold wordsF at h
    cases hw : wordF w with
    | none => rw [hw] at h; cases h
    | some q =>
      cases hr : wordsF r with
      | none => rw [hw, hr] at h; cases h
      | some qs =>
        rw [hw, hr] at h
        injection h with h
        subst h
        obtain ⟨a1, a2, a3⟩ := word_back hw
        obtain ⟨b1, b2, b3⟩ := words_back hr
        refine ⟨by rw [List.map_cons, a1, b1], fun x hx => ?_, by rw [List.all_cons, a3, b3]; rfl⟩
        rcases List.mem_cons.mp hx with rfl | hx
        · exact a2
        · exact b2 x hx
theorem split_ne (t : Str) : Txt.split t " " ≠ [] := fun e => by
  have h := split_spl t " " (by decide +kernel) (kind_ok (by decide +kernel))
  rw [e] at h
  have key : ∀ (k : Nat) (acc l : List Nat), spl (tl (" " : Str)) k acc l ≠ [] := by
    intro k acc l
    induction l generalizing k acc with
    | nil => cases k <;> exact fun z => nomatch z
    | cons c r ih =>
      cases k with
      | zero =>
        unfold spl
        split
        · exact fun z => nomatch z
        · exact ih _ _
      | succ k => exact ih _ _
  exact key _ _ _ h.symm
theorem read_back {t : Str} {ps : List P2} (h : readF t = some ps) : textF ps = t ∧ (∀ q ∈ ps, 0 ≤ q.2) ∧ ps.all fit60 = true := by
  unfold readF at h
  split at h
  · rename_i e
    injection h with h
    subst h e
    exact ⟨rfl, (fun _ z => nomatch z), rfl⟩
  · obtain ⟨a, b, c⟩ := words_back h
    refine ⟨?_, b, c⟩
    have ne : ps ≠ [] := fun e => split_ne t (by rw [← a, e]; rfl)
    unfold textF
    rw [if_neg ne, a, TL.join_eq, PySem.StrLaws.join_split]
end Mth

set_option Elab.async false
set_option linter.all false
namespace Mth
open PySem TL
theorem sw_one (w : Str) (c : Nat) : Txt.startswith w ⟨#[c]⟩ = decide ((tl w).head? = some c) := by
  have h := PySem.StrLaws.subAt_one w c 0
  rw [← List.head?_eq_getElem?] at h
  unfold Txt.startswith
  rw [Bool.eq_iff_iff]
  simp only [Bool.and_eq_true, decide_eq_true_eq]
  exact h
theorem s0 : (Str.ofString "0") = ⟨#[48]⟩ := by decide +kernel
theorem sMinus : (Str.ofString "-") = ⟨#[45]⟩ := by decide +kernel
theorem sFigs : (Str.ofString "0123456789") = ⟨#[48, 49, 50, 51, 52, 53, 54, 55, 56, 57]⟩ := by decide +kernel
theorem sEmpty : (Str.ofString "") = ⟨#[]⟩ := by decide +kernel
theorem tl_eq {w : Str} {l : List Nat} (h : tl w = l) : w = ⟨l.toArray⟩ := by rw [← h, mk_tl]
theorem eq_tl {w : Str} {l : List Nat} : w = ⟨l.toArray⟩ ↔ tl w = l := ⟨fun h => by rw [h], tl_eq⟩
theorem cut_from1 (w : Str) : tl (L2.cutS w (some 1) none) = (tl w).drop 1 := by
  show (((tl w).drop (HT.sIx w.length 0 (some ((1 : Nat) : Int)))).take (HT.sIx w.length w.length none - HT.sIx w.length 0 (some ((1 : Nat) : Int)))) = _
  rw [HT.sIx_nat, HT.sIx_none]
  have hl := len_tl w
  cases e : tl w with
  | nil => simp
  | cons c r =>
    rw [e] at hl
    simp only [List.length_cons] at hl
    rw [show min 1 w.length = 1 by omega]
    rw [List.drop_one, List.tail_cons, List.take_of_length_le (by omega)]
theorem cut_to1 (w : Str) : tl (L2.cutS w none (some 1)) = (tl w).take 1 := by
  show (((tl w).drop (HT.sIx w.length 0 none)).take (HT.sIx w.length w.length (some ((1 : Nat) : Int)) - HT.sIx w.length 0 none)) = _
  rw [HT.sIx_nat, HT.sIx_none]
  have hl := len_tl w
  cases e : tl w with
  | nil => simp
  | cons c r =>
    rw [e] at hl
    simp only [List.length_cons] at hl
    rw [show min 1 w.length = 1 by omega]
    rfl
theorem okFig_of (w : Str) : okFig (tl w) = ((Txt.isascii w && Txt.isdigit w) && (decide (w.length ≤ 60) && !(Txt.startswith w (Str.ofString "0") && !decide (w = Str.ofString "0")))) := by
  have h := isfig (tl w)
  rw [mk_tl] at h
  rw [h, s0, sw_one]
  have e : decide (w = (⟨#[48]⟩ : Str)) = decide (tl w = [48]) := decide_eq_decide.mpr (eq_tl (l := [48]))
  rw [e, ← Bool.not_not (decide (tl w = [48])), Bool.not_not]
  have l := len_tl w
  unfold okFig
  rw [l]
  rw [Bool.eq_iff_iff]
  simp only [Bool.and_eq_true, Bool.or_eq_true, Bool.not_eq_true', Bool.and_eq_false_iff, decide_eq_true_eq, decide_eq_false_iff_not, Bool.not_eq_false', ne_eq, and_assoc]
theorem int_of {w : Str} (h : okFig (tl w) = true) : intText? w = some (figV (tl w) : Int) ∧ w.length ≤ 60 := by
  obtain ⟨h1, h2, h3, h4⟩ := okFig_iff.mp h
  have := intText_fig h2 h1 h3
  rw [mk_tl] at this
  exact ⟨this, by rw [len_tl]; exact h3⟩
theorem figV_zero {l : List Nat} (h : okFig l = true) : figV l = 0 ↔ l.head? = some 48 := by
  obtain ⟨h1, h2, h3, h4⟩ := okFig_iff.mp h
  cases l with
  | nil => exact absurd rfl h1
  | cons c r =>
    constructor
    · intro z
      apply Classical.byContradiction
      intro n
      have := figV_pos (c := c) (l := r) (h2 c List.mem_cons_self) (fun e => n (by rw [e]; rfl))
      omega
    · intro e
      have e : c = 48 := by simpa using e
      subst e
      rcases h4 with h4 | h4
      · simp at h4
        rw [h4]
        rfl
      · exact absurd rfl h4
/-- the figures of a number with or without a sign -/
def figsOf (t : Str) : Str := if L2.cutS t none (some 1) = Str.ofString "-" then L2.cutS t (some 1) none else t
theorem figs_minus {t : Str} {r : List Nat} (h : tl t = 45 :: r) : tl (figsOf t) = r := by
  unfold figsOf
  have e : L2.cutS t none (some 1) = Str.ofString "-" := by
    rw [sMinus]
    refine tl_eq ?_
    rw [cut_to1, h]
    rfl
  rw [if_pos e, cut_from1, h]
  rfl
theorem figs_plain {t : Str} (h : (tl t).head? ≠ some 45) : figsOf t = t := by
  unfold figsOf
  refine if_neg fun e => h ?_
  have e := congrArg tl e
  rw [cut_to1, sMinus] at e
  cases q : tl t with
  | nil => rw [q] at e; cases e
  | cons c r =>
    rw [q] at e
    injection e with e _
    rw [e]
    rfl
theorem figs_len (t : Str) : (figsOf t).length ≤ t.length := by
  unfold figsOf
  split
  · exact L2.cutS_length _ _ _
  · exact Nat.le_refl _
theorem strip_figs (f : Str) : (Txt.stripChars f (Str.ofString "0123456789") = Str.ofString "") ↔ ∀ c ∈ tl f, figB c = true := by
  have h := strip_all (Str.ofString "0123456789") (tl f)
  rw [mk_tl] at h
  rw [sEmpty, h]
  refine forall_congr' fun c => forall_congr' fun _ => ?_
  rw [sFigs, figB_iff]
  unfold Fig
  simp
  omega
/-- what the law refuses of a number -/
def badNum (t : Str) : Bool := decide (figsOf t = Str.ofString "") || (decide (60 < (figsOf t).length) || (!decide (Txt.stripChars (figsOf t) (Str.ofString "0123456789") = Str.ofString "") || (decide ((tl (figsOf t)).head? = some 48) && !decide (t = Str.ofString "0"))))
theorem badNum_false {t : Str} : badNum t = false ↔ tl (figsOf t) ≠ [] ∧ (tl (figsOf t)).length ≤ 60 ∧ (∀ c ∈ tl (figsOf t), figB c = true) ∧ ((tl (figsOf t)).head? ≠ some 48 ∨ tl t = [48]) := by
  unfold badNum
  simp only [Bool.or_eq_false_iff, decide_eq_false_iff_not, Bool.not_eq_false', Bool.and_eq_false_iff, decide_eq_true_eq, strip_figs, Nat.not_lt, len_tl (figsOf t)]
  rw [sEmpty, s0]
  have e1 : figsOf t = (⟨#[]⟩ : Str) ↔ tl (figsOf t) = [] := eq_tl (l := [])
  have e2 : t = (⟨#[48]⟩ : Str) ↔ tl t = [48] := eq_tl (l := [48])
  rw [e1, e2]
theorem law_num (t : Str) : (badNum t = true → placeF t = none) ∧ (badNum t = false → ∃ n, placeF t = some n ∧ intText? t = some n ∧ t.length ≤ 61) := by
  have key : badNum t = false ↔ ∃ n, placeF t = some n ∧ intText? t = some n ∧ t.length ≤ 61 := by
    rw [badNum_false]
    unfold placeF
    cases e : tl t with
    | nil =>
      rw [figs_plain (by rw [e]; simp), e]
      simp [negF]
    | cons c r =>
      by_cases hc : c = 45
      · subst hc
        rw [figs_minus e]
        unfold negF
        simp only [if_true]
        constructor
        · rintro ⟨h1, h2, h3, h4⟩
          have h4 : r.head? ≠ some 48 := h4.resolve_right (by simp)
          have ok : okFig r = true := okFig_iff.mpr ⟨h1, fun c hc => figB_iff.mp (h3 c hc), h2, .inr h4⟩
          have nz : figV r ≠ 0 := fun z => h4 ((figV_zero ok).mp z)
          refine ⟨-(figV r : Int), by rw [ok, decide_eq_true nz]; rfl, ?_, by rw [len_tl, e, List.length_cons]; omega⟩
          have := intText_neg (l := r) (fun c hc => figB_iff.mp (h3 c hc)) h1 h2
          rw [← e, mk_tl] at this
          exact this
        · rintro ⟨n, h, _, _⟩
          split at h
          · rename_i ok
            simp only [Bool.and_eq_true, decide_eq_true_eq] at ok
            obtain ⟨o1, o2, o3, o4⟩ := okFig_iff.mp ok.1
            exact ⟨o1, o3, fun c hc => figB_iff.mpr (o2 c hc), .inl fun z => ok.2 ((figV_zero ok.1).mpr z)⟩
          · cases h
      · rw [figs_plain (by rw [e]; simp [hc]), e]
        unfold negF
        simp only [if_neg hc]
        constructor
        · rintro ⟨h1, h2, h3, h4⟩
          have ok : okFig (c :: r) = true := okFig_iff.mpr ⟨h1, fun c hc => figB_iff.mp (h3 c hc), h2, h4.symm.imp (fun z => by rw [z]; rfl) id⟩
          have := int_of (w := t) (by rw [e]; exact ok)
          rw [e] at this
          exact ⟨_, by rw [if_pos ok], this.1, by omega⟩
        · rintro ⟨n, h, _, _⟩
          split at h
          · rename_i ok
            obtain ⟨o1, o2, o3, o4⟩ := okFig_iff.mp ok
            refine ⟨o1, o3, fun c hc => figB_iff.mpr (o2 c hc), ?_⟩
            rcases o4 with o4 | o4
            · by_cases z : c = 48
              · right
                have : r = [] := by simpa using o4
                rw [this, z]
              · left
                simp [z]
            · exact .inl o4
          · cases h
  refine ⟨fun hb => ?_, key.mp⟩
  cases hp : placeF t with
  | none => rfl
  | some n =>
    exfalso
    -- a place that is read is never refused
    have : badNum t = false := by
      rw [key]
      refine ⟨n, hp, ?_⟩
      unfold placeF at hp
      cases e : tl t with
      | nil => rw [e] at hp; cases hp
      | cons c r =>
        rw [e] at hp
        unfold negF at hp
        simp only at hp
        split at hp
        · rename_i hc
          subst hc
          split at hp
          · rename_i ok
            simp only [Bool.and_eq_true, decide_eq_true_eq] at ok
            obtain ⟨o1, o2, o3, o4⟩ := okFig_iff.mp ok.1
            injection hp with hp
            subst hp
            have := intText_neg o2 o1 o3
            rw [← e, mk_tl] at this
            exact ⟨this, by rw [len_tl, e, List.length_cons]; omega⟩
          · cases hp
        · split at hp
          · rename_i ok
            injection hp with hp
            subst hp
            have := int_of (w := t) (by rw [e]; exact ok)
            rw [e] at this
            exact ⟨this.1, by omega⟩
          · cases hp
    rw [this] at hb
    cases hb
/-- a count is a place that is not below 0 -/
theorem num_place (w : Str) : numF w = (placeF w).bind fun n => if n < 0 then none else some n := by
  unfold numF placeF
  cases e : tl w with
  | nil => rfl
  | cons c r =>
    unfold negF
    simp only
    by_cases hc : c = 45
    · subst hc
      rw [if_pos rfl]
      have no : okFig (45 :: r) = false := by
        rw [Bool.eq_false_iff]
        intro z
        have := (okFig_iff.mp z).2.1 45 List.mem_cons_self
        unfold Fig at this
        omega
      rw [no]
      split
      · rename_i h; cases h
      · split
        · rename_i ok
          simp only [Bool.and_eq_true, decide_eq_true_eq] at ok
          show none = if (-(figV r : Int)) < 0 then none else _
          rw [if_pos (by omega)]
        · rfl
    · rw [if_neg hc]
      split
      · show _ = if ((figV (c :: r) : Int)) < 0 then none else _
        rw [if_neg (by omega)]
        rfl
      · rfl
/-- a place, as the program takes it -/
theorem place_sign {w : Str} (h : Txt.startswith w (Str.ofString "-") = true) : placeF w = (numF (L2.cutS w (some 1) none)).bind fun n => if n = 0 then none else some (-n) := by
  rw [sMinus, sw_one, decide_eq_true_eq] at h
  unfold placeF numF
  rw [cut_from1]
  cases e : tl w with
  | nil => rw [e] at h; cases h
  | cons c r =>
    rw [e] at h
    have h : c = 45 := by simpa using h
    subst h
    rw [List.drop_one, List.tail_cons]
    unfold negF
    simp only [if_true]
    by_cases ok : okFig r = true
    · rw [ok, Bool.true_and, if_pos rfl]
      show _ = if ((figV r : Int)) = 0 then none else some (-(figV r : Int))
      by_cases z : figV r = 0
      · rw [z]; rfl
      · rw [decide_eq_true z, if_pos rfl, if_neg (by omega)]
    · rw [Bool.eq_false_iff.mpr ok]
      rfl
theorem place_plain {w : Str} (h : Txt.startswith w (Str.ofString "-") = false) : placeF w = numF w := by
  rw [sMinus, sw_one, decide_eq_false_iff_not] at h
  unfold placeF numF
  cases e : tl w with
  | nil => rfl
  | cons c r =>
    rw [e] at h
    have h : c ≠ 45 := by simpa using h
    unfold negF
    simp only [if_neg h]
end Mth

set_option Elab.async false
set_option linter.all false
namespace Mth
open PySem TL
theorem numF_no {w : Str} (h : okFig (tl w) = false) : numF w = none := by unfold numF; rw [h]; rfl
theorem numF_yes {w : Str} (h : okFig (tl w) = true) : numF w = some (figV (tl w) : Int) := by unfold numF; rw [if_pos h]
theorem spl_cnt (S : List Nat) : ∀ (l : List Nat) (k : Nat) (acc : List Nat), (spl S k acc l).length ≤ l.length + 1
  | [], k, acc => by cases k <;> exact Nat.le_refl _
  | c :: r, 0, acc => by
    unfold spl
    split
    · have := spl_cnt S r (S.length - 1) []
      simp only [List.length_cons]
      omega
    · have := spl_cnt S r 0 (acc ++ [c])
      simp only [List.length_cons]
      omega
  | c :: r, k + 1, acc => by
    have := spl_cnt S r k acc
    show (spl S k acc r).length ≤ _
    simp only [List.length_cons]
    omega
theorem spl_mem (S : List Nat) : ∀ (l : List Nat) (k : Nat) (acc p : List Nat), p ∈ spl S k acc l → p.length ≤ acc.length + l.length
  | [], k, acc, p, h => by
    have h : p ∈ [acc] := by cases k <;> exact h
    rw [List.mem_singleton.mp h]
    simp
  | c :: r, 0, acc, p, h => by
    unfold spl at h
    split at h
    · rcases List.mem_cons.mp h with rfl | h
      · simp
      · have := spl_mem S r _ _ p h
        simp only [List.length_cons, List.length_nil] at this ⊢
        omega
    · have := spl_mem S r _ _ p h
      simp only [List.length_cons, List.length_append, List.length_nil] at this ⊢
      omega
  | c :: r, k + 1, acc, p, h => by
    have := spl_mem S r k acc p h
    simp only [List.length_cons]
    omega
theorem split_as (t : Str) : (Txt.split t (Str.ofString " ")).map tl = spl [32] 0 [] (tl t) := by
  have e : tl (Str.ofString " ") = [32] := by decide +kernel
  have := split_spl t (Str.ofString " ") (by rw [e]; simp) (kind_ok (by decide +kernel))
  rw [e] at this
  exact this
theorem split_cnt (t : Str) : (Txt.split t (Str.ofString " ")).length ≤ t.length + 1 := by
  have h := congrArg List.length (split_as t)
  rw [List.length_map] at h
  rw [h, len_tl]
  exact spl_cnt _ _ _ _
theorem split_mem {t w : Str} (h : w ∈ Txt.split t (Str.ofString " ")) : w.length ≤ t.length := by
  have h2 : tl w ∈ spl [32] 0 [] (tl t) := by rw [← split_as]; exact List.mem_map_of_mem h
  have := spl_mem _ _ _ _ _ h2
  rw [len_tl, len_tl t]
  simpa using this
theorem str_len_app (x y : Str) : (x ++ y).length = x.length + y.length := by rw [len_tl, tl_append, List.length_append, ← len_tl, ← len_tl]
theorem part_len (w y : Str) : (Txt.partition w y).1.length ≤ w.length ∧ (Txt.partition w y).2.2.length ≤ w.length := by
  have h := congrArg Str.length (PySem.StrLaws.partition_sum w y)
  rw [str_len_app, str_len_app] at h
  omega
theorem words_snoc {w : Str} : ∀ {l : List Str} {qs : List P2} {q : P2}, wordsF l = some qs → wordF w = some q → wordsF (l ++ [w]) = some (qs ++ [q])
  | [], qs, q, h, hw => by
    injection h with h
    subst h
    show (wordF w).bind _ = _
    rw [hw]
    rfl
  | x :: r, qs, q, h, hw => by
    unfold wordsF at h
    cases hx : wordF x with
    | none => rw [hx] at h; cases h
    | some p =>
      cases hr : wordsF r with
      | none => rw [hx, hr] at h; cases h
      | some ps =>
        rw [hx, hr] at h
        injection h with h
        subst h
        show (wordF x).bind (fun q => (wordsF (r ++ [w])).bind fun qs => some (q :: qs)) = _
        rw [hx, words_snoc hr hw]
        rfl
theorem words_none {w : Str} : ∀ {l : List Str} {i : Nat}, l[i]? = some w → wordF w = none → wordsF l = none
  | [], _, h, _ => by simp at h
  | x :: r, 0, h, hw => by
    have h : x = w := by simpa using h
    subst h
    show (wordF x).bind _ = none
    rw [hw]
    rfl
  | x :: r, i + 1, h, hw => by
    have h : r[i]? = some w := by simpa using h
    show (wordF x).bind (fun q => (wordsF r).bind fun qs => some (q :: qs)) = none
    rw [words_none h hw]
    cases wordF x <;> rfl
theorem word_some {w : Str} {q : P2} : wordF w = some q ↔ placeF (Txt.partition w (Str.ofString ":")).1 = some q.1 ∧ numF (Txt.partition w (Str.ofString ":")).2.2 = some q.2 := by
  unfold wordF
  cases placeF (Txt.partition w (Str.ofString ":")).1 with
  | none => simp
  | some p =>
    cases numF (Txt.partition w (Str.ofString ":")).2.2 with
    | none => simp
    | some c =>
      constructor
      · intro h; injection h with h; subst h; exact ⟨rfl, rfl⟩
      · rintro ⟨h1, h2⟩
        injection h1 with h1
        injection h2 with h2
        subst h1 h2
        rfl
theorem word_none1 {w : Str} (h : placeF (Txt.partition w (Str.ofString ":")).1 = none) : wordF w = none := by
  unfold wordF
  rw [h]
  rfl
theorem word_none2 {w : Str} (h : numF (Txt.partition w (Str.ofString ":")).2.2 = none) : wordF w = none := by
  unfold wordF
  rw [h]
  cases placeF (Txt.partition w (Str.ofString ":")).1 <;> rfl
end Mth

set_option Elab.async false
set_option linter.all false
set_option maxRecDepth 100000
set_option maxHeartbeats 4000000
namespace Sp
open PySem L2 Mth
open Evl (Ex)

/-! ### pairs in the heap -/
abbrev II (p : P2) : HO := .tup [.int p.1, .int p.2]
def Tp (H : Hp) (v : V) (p : P2) : Prop := ∃ t, v = .ref t ∧ H t = some (II p)
abbrev Tps (H : Hp) : List V → List P2 → Prop := Paired (Tp H)
/-- a list of pairs at a -/
def PL (H : Hp) (a : Addr) (ps : List P2) : Prop := ∃ vs, H a = some (.lst vs) ∧ Tps H vs ps
section
variable {H H' : Hp} {v : V} {p q : P2} {vs ws : List V} {ps qs : List P2} {a l : Addr}
theorem Tp.mono (e : Ex H H') (h : Tp H v p) : Tp H' v p := by
  obtain ⟨t, e1, e2⟩ := h
  exact ⟨t, e1, e t _ e2⟩
theorem Tps.mono (e : Ex H H') (h : Tps H vs ps) : Tps H' vs ps := Paired.mapP h fun _ _ => Tp.mono e
theorem PL.mono (e : Ex H H') (h : PL H a ps) : PL H' a ps := by
  obtain ⟨vs, e1, e2⟩ := h
  exact ⟨vs, e a _ e1, Tps.mono e e2⟩
/-- a list may change, pairs stay -/
theorem Tp.upd {xs ys : List V} (hl : H l = some (.lst xs)) (h : Tp H v p) : Tp (L2.upd H l (.lst ys)) v p := by
  obtain ⟨t, e1, e2⟩ := h
  exact ⟨t, e1, by rw [upd_ne (ne_of e2 hl (by intro z; cases z))]; exact e2⟩
theorem Tps.upd {xs ys : List V} (hl : H l = some (.lst xs)) (h : Tps H vs ps) : Tps (L2.upd H l (.lst ys)) vs ps := Paired.mapP h fun _ _ => Tp.upd hl
theorem PL.upd {xs ys : List V} (hl : H l = some (.lst xs)) (h : PL H a ps) (ne : a ≠ l) : PL (L2.upd H l (.lst ys)) a ps := by
  obtain ⟨vs, e1, e2⟩ := h
  exact ⟨vs, by rw [upd_ne ne]; exact e1, e2.upd hl⟩
theorem pr_len {α β : Type} {F : α → β → Prop} {xs : List α} {ys : List β} (h : Paired F xs ys) : xs.length = ys.length := Paired.length h
theorem pr_get {α β : Type} {F : α → β → Prop} : ∀ {xs : List α} {ys : List β} {i : Nat} {x : α}, Paired F xs ys → xs[i]? = some x → ∃ y, ys[i]? = some y ∧ F x y
  | _, _, _, _, .nil, e => by simp at e
  | _, _, 0, _, .cons r _, e => by simp at e; subst e; exact ⟨_, rfl, r⟩
  | _, _, i + 1, x, .cons _ t, e => by
    obtain ⟨u, h1, h2⟩ := pr_get (i := i) (x := x) t (by simpa using e)
    exact ⟨u, by simpa using h1, h2⟩
theorem pr_get2 {α β : Type} {F : α → β → Prop} : ∀ {xs : List α} {ys : List β} {i : Nat} {y : β}, Paired F xs ys → ys[i]? = some y → ∃ x, xs[i]? = some x ∧ F x y
  | _, _, _, _, .nil, e => by simp at e
  | _, _, 0, _, .cons r _, e => by simp at e; subst e; exact ⟨_, rfl, r⟩
  | _, _, i + 1, x, .cons _ t, e => by
    obtain ⟨u, h1, h2⟩ := pr_get2 (i := i) (y := x) t (by simpa using e)
    exact ⟨u, by simpa using h1, h2⟩
theorem pr_app {α β : Type} {F : α → β → Prop} : ∀ {xs xs' : List α} {ys ys' : List β}, Paired F xs ys → Paired F xs' ys' → Paired F (xs ++ xs') (ys ++ ys')
  | _, _, _, _, .nil, s => s
  | _, _, _, _, .cons r t, s => .cons r (pr_app t s)
theorem pr_take {α β : Type} {F : α → β → Prop} : ∀ {xs : List α} {ys : List β} (n : Nat), Paired F xs ys → Paired F (xs.take n) (ys.take n)
  | _, _, 0, _ => .nil
  | _, _, _ + 1, .nil => .nil
  | _, _, n + 1, .cons r t => .cons r (pr_take n t)
theorem pr_drop {α β : Type} {F : α → β → Prop} : ∀ {xs : List α} {ys : List β} (n : Nat), Paired F xs ys → Paired F (xs.drop n) (ys.drop n)
  | _, _, 0, r => r
  | _, _, _ + 1, .nil => .nil
  | _, _, n + 1, .cons _ t => pr_drop n t
theorem pr_rev {α β : Type} {F : α → β → Prop} : ∀ {xs : List α} {ys : List β}, Paired F xs ys → Paired F xs.reverse ys.reverse
  | _, _, .nil => .nil
  | _, _, .cons r t => by
    rw [List.reverse_cons, List.reverse_cons]
    exact pr_app (pr_rev t) (.cons r .nil)
theorem pr_set {α β : Type} {F : α → β → Prop} : ∀ {xs : List α} {ys : List β} (n : Nat) {x : α} {y : β}, Paired F xs ys → F x y → Paired F (xs.set n x) (ys.set n y)
  | _, _, _, _, _, .nil, _ => .nil
  | _, _, 0, _, _, .cons _ t, h => .cons h t
  | _, _, n + 1, _, _, .cons r t, h => .cons r (pr_set n t h)
theorem Ex_upd_new {o : HO} (h : H l = none) : Ex H (L2.upd H l o) := Evl.Ex.new h
theorem Ex.free (e : Ex H H') (h : H' l = none) : H l = none := Evl.fresh_back e h

/-! ### == of lists of pairs -/
def tD (p : P2) : PyData := .tuple [.int p.1, .int p.2]
theorem tp_dp {K : PySem.W.Frag} (h : Tp H v p) : Dp K H v (tD p) := by
  obtain ⟨t, rfl, e⟩ := h
  exact .tup (SqT.of e) (.cons (.int _) (.cons (.int _) .nil))
theorem tps_dp {K : PySem.W.Frag} : ∀ {vs : List V} {ps : List P2}, Tps H vs ps → DpAll K H vs (ps.map tD)
  | _, _, .nil => .nil
  | _, _, .cons r t => .cons (tp_dp r) (tps_dp t)
theorem pl_dp {K : PySem.W.Frag} (h : PL H a ps) : Dp K H (.ref a) (.list (ps.map tD)) := by
  obtain ⟨vs, e1, e2⟩ := h
  exact .lst (SqL.of e1) (tps_dp e2)
theorem eqv_tD (p q : P2) : PyData.eqv (tD p) (tD q) = decide (p = q) := by
  obtain ⟨a, b⟩ := p
  obtain ⟨c, d⟩ := q
  unfold tD
  simp only [PyData.eqv, PyData.eqvAll, Bool.and_true]
  rw [Bool.eq_iff_iff]
  simp
theorem eqv_all : ∀ ps qs : List P2, PyData.eqvAll (ps.map tD) (qs.map tD) = decide (ps = qs)
  | [], [] => by simp [PyData.eqvAll]
  | [], _ :: _ => by simp [PyData.eqvAll]
  | _ :: _, [] => by simp [PyData.eqvAll]
  | x :: xs, y :: ys => by
    rw [List.map_cons, List.map_cons, PyData.eqvAll, eqv_tD x y, eqv_all xs ys, ← Bool.decide_and]
    exact decide_eq_decide.mpr (by rw [List.cons.injEq])
theorem eqv_pl (ps qs : List P2) : PyData.eqv (.list (ps.map tD)) (.list (qs.map tD)) = decide (ps = qs) := by
  simp only [PyData.eqv]
  exact eqv_all ps qs
theorem lay_all : ∀ ps : List P2, PyData.canLayAll0 (ps.map tD) = true
  | [] => rfl
  | x :: xs => by
    rw [List.map_cons, PyData.canLayAll0, lay_all xs]
    rfl
theorem dep_all : ∀ ps : List P2, PyData.depthAll (ps.map tD) ≤ 1
  | [] => Nat.zero_le _
  | x :: xs => by
    rw [List.map_cons, PyData.depthAll]
    refine Nat.max_le.mpr ⟨?_, dep_all xs⟩
    unfold tD
    simp [PyData.depth, PyData.depthAll]
theorem shp (ps : List P2) : SeqAt.shaped (.list (ps.map tD)) = true := by
  unfold SeqAt.shaped
  rw [Bool.and_eq_true]
  refine ⟨?_, decide_eq_true ?_⟩
  · show PyData.canLay0 (.list (ps.map tD)) = true
    rw [PyData.canLay0]
    exact lay_all ps
  · rw [PyData.depth]
    have := dep_all ps
    omega
theorem eq_PL {K : PySem.W.Frag} {b : Addr} {Q : VK} (h1 : PL H a ps) (h2 : PL H b qs) (k : Q (.bl (decide (ps = qs))) H) : rEqD K (.ref a) (.ref b) H Q :=
  ⟨_, _, pl_dp h1, pl_dp h2, shp ps, shp qs, by rw [eqv_pl]; exact k⟩
theorem ne_PL {K : PySem.W.Frag} {b : Addr} {Q : VK} (h1 : PL H a ps) (h2 : PL H b qs) (k : Q (.bl (!decide (ps = qs))) H) : rNeD K (.ref a) (.ref b) H Q :=
  ⟨_, _, pl_dp h1, pl_dp h2, shp ps, shp qs, by rw [eqv_pl]; exact k⟩
end

/-! ### a def that may be called by its name -/
structure Cl (P : Program) (w : World) (K : PySem.W.Frag) (mg : Str → Option Value) (base : Heap) (nm : Str) (k : Nat) (ps : List Str) (sp : Sp) (f : Addr) (fd : FuncData) : Prop where
  F : FnOk P w K mg base CX0 k f fd ps sp
  g : mg nm = some (.ref f)
  kp : PySem.W.keepIn K (.ref f) = true
  b : Binds K fd ps []

/-! ### values of whole numbers -/
section
variable {σ : St} {H : Hp} {ta tb te tc : TE} {x y : V} {v : V} {i : Nat} {D : Ends} {tz t1 t2 : TS} {t u : TT} {b c : Bool}
theorem v_op0 {g : Int → Int → V} {i j : Int} (ha : Val ta σ H (.int i)) (hb : Val tb σ H (.int j)) : Val (tOp (rI0 g) ta tb) σ H (g i j) := val_op ha hb fun _ q => ⟨i, j, rfl, rfl, q⟩
theorem v_op {C : Int → Int → Prop} {g : Int → Int → V} {i j : Int} (ha : Val ta σ H (.int i)) (hb : Val tb σ H (.int j)) (hc : C i j) : Val (tOp (rI C g) ta tb) σ H (g i j) := val_op ha hb fun _ q => ⟨i, j, rfl, rfl, hc, q⟩
theorem v_neg {i : Int} (ha : Val ta σ H (.int i)) : Val (tUn (rU fun i => .int (-i)) ta) σ H (.int (-i)) := fun _ q => ha _ ⟨i, rfl, q⟩
theorem v_is (h : Val te σ H x) (e : x = y) : Val te σ H y := e ▸ h
theorem v_and {a b : Bool} (h1 : Val ta σ H (.bl a)) (h2 : a = true → Val tb σ H (.bl b)) : Val (tAndV ta tb) σ H (.bl (a && b)) := fun Q q => h1 _ ⟨a, rfl, by
  cases a with
  | true => exact h2 rfl Q q
  | false => exact q⟩
theorem v_or {a b : Bool} (h1 : Val ta σ H (.bl a)) (h2 : a = false → Val tb σ H (.bl b)) : Val (tOrV ta tb) σ H (.bl (a || b)) := fun Q q => h1 _ ⟨a, rfl, by
  cases a with
  | true => exact q
  | false => exact h2 rfl Q q⟩
theorem v_not {a : Bool} (h : Val ta σ H (.bl a)) : Val (tNotV ta) σ H (.bl (!a)) := fun Q q => h _ ⟨a, rfl, q⟩
theorem v_eq (ha : Val ta σ H x) (hb : Val tb σ H y) (hs : scal x y = true) : Val (tOp rEq ta tb) σ H (.bl (decide (x = y))) := val_op ha hb fun _ q => ⟨hs, q⟩
theorem v_ne (ha : Val ta σ H x) (hb : Val tb σ H y) (hs : scal x y = true) : Val (tOp rNe ta tb) σ H (.bl (!decide (x = y))) := val_op ha hb fun _ q => ⟨hs, q⟩
theorem v_tup {K : PySem.W.Frag} {a : Addr} {xs : List V} {i : Int} (ha : Val ta σ H (.ref a)) (hb : Val tb σ H (.int i)) (h : H a = some (.tup xs)) (hi : atI xs i = some v) : Val (tOp (rIxT K) ta tb) σ H v := val_op ha hb fun _ q => ⟨a, xs, i, v, rfl, rfl, SqT.of h, hi, q⟩
theorem v_lst {K : PySem.W.Frag} {a : Addr} {xs : List V} {i : Int} (ha : Val ta σ H (.ref a)) (hb : Val tb σ H (.int i)) (h : H a = some (.lst xs)) (hi : atI xs i = some v) : Val (tOp (rIxL K) ta tb) σ H v := val_op ha hb fun _ q => ⟨a, xs, i, v, rfl, rfl, SqL.of h, hi, q⟩
theorem v_lstq {K : PySem.W.Frag} {a : Addr} {xs : List V} {i : Int} (ha : Val ta σ H (.ref a)) (hb : Val tb σ H (.int i)) (h : SqL K H a xs) (hi : atI xs i = some v) : Val (tOp (rIxL K) ta tb) σ H v := val_op ha hb fun _ q => ⟨a, xs, i, v, rfl, rfl, h, hi, q⟩
theorem v_if (h : Ans t σ H b) (h1 : b = true → Val ta σ H v) (h2 : b = false → Val tb σ H v) : Val (tIf t ta tb) σ H v := fun Q q => h _ (by
  cases b with
  | true => exact h1 rfl Q q
  | false => exact h2 rfl Q q)
theorem a_val (h : Val te σ H (.bl b)) : Ans (tTest te) σ H b := fun _ q => h _ ⟨b, rfl, q⟩
theorem a_valB (h : Val te σ H (.bl b)) : Ans (tB te) σ H b := fun _ q => h _ ⟨b, rfl, q⟩
theorem a_and {a b : Bool} (h1 : Ans t σ H a) (h2 : a = true → Ans u σ H b) : Ans (tAnd t u) σ H (a && b) := fun Q q => h1 _ (by
  cases a with
  | true => exact h2 rfl Q q
  | false => exact q)
theorem a_or {a b : Bool} (h1 : Ans t σ H a) (h2 : a = false → Ans u σ H b) : Ans (tOr t u) σ H (a || b) := fun Q q => h1 _ (by
  cases a with
  | true => exact q
  | false => exact h2 rfl Q q)
theorem v_add {i j : Int} (ha : Val ta σ H (.int i)) (hb : Val tb σ H (.int j)) : Val (tOp (rI0 fun i j => .int (i + j)) ta tb) σ H (.int (i + j)) := v_op0 (g := fun i j => .int (i + j)) ha hb
theorem v_sub {i j : Int} (ha : Val ta σ H (.int i)) (hb : Val tb σ H (.int j)) : Val (tOp (rI0 fun i j => .int (i - j)) ta tb) σ H (.int (i - j)) := v_op0 (g := fun i j => .int (i - j)) ha hb
theorem v_lt {i j : Int} (ha : Val ta σ H (.int i)) (hb : Val tb σ H (.int j)) : Val (tOp (rI0 fun i j => .bl (decide (i < j))) ta tb) σ H (.bl (decide (i < j))) := v_op0 (g := fun i j => .bl (decide (i < j))) ha hb
theorem v_le {i j : Int} (ha : Val ta σ H (.int i)) (hb : Val tb σ H (.int j)) : Val (tOp (rI0 fun i j => .bl (decide (i ≤ j))) ta tb) σ H (.bl (decide (i ≤ j))) := v_op0 (g := fun i j => .bl (decide (i ≤ j))) ha hb
theorem v_gt {i j : Int} (ha : Val ta σ H (.int i)) (hb : Val tb σ H (.int j)) : Val (tOp (rI0 fun i j => .bl (decide (j < i))) ta tb) σ H (.bl (decide (j < i))) := v_op0 (g := fun i j => .bl (decide (j < i))) ha hb
theorem v_ge {i j : Int} (ha : Val ta σ H (.int i)) (hb : Val tb σ H (.int j)) : Val (tOp (rI0 fun i j => .bl (decide (j ≤ i))) ta tb) σ H (.bl (decide (j ≤ i))) := v_op0 (g := fun i j => .bl (decide (j ≤ i))) ha hb
theorem v_mul {i j : Int} (ha : Val ta σ H (.int i)) (hb : Val tb σ H (.int j)) (hc : CMul i j) : Val (tOp (rI CMul fun i j => .int (i * j)) ta tb) σ H (.int (i * j)) := v_op (g := fun i j => .int (i * j)) ha hb hc
theorem v_mulW {i j : Int} (ha : Val ta σ H (.int i)) (hb : Val tb σ H (.int j)) (hc : CMulW i j) : Val (tOp (rI CMulW fun i j => .int (i * j)) ta tb) σ H (.int (i * j)) := v_op (g := fun i j => .int (i * j)) ha hb hc
theorem v_div {i j : Int} (ha : Val ta σ H (.int i)) (hb : Val tb σ H (.int j)) (hc : CDiv i j) : Val (tOp (rI CDiv fun i j => .int (i / j)) ta tb) σ H (.int (i / j)) := v_op (g := fun i j => .int (i / j)) ha hb hc
theorem v_divW {i j : Int} (ha : Val ta σ H (.int i)) (hb : Val tb σ H (.int j)) (hc : CDivW i j) : Val (tOp (rI CDivW fun i j => .int (i / j)) ta tb) σ H (.int (i / j)) := v_op (g := fun i j => .int (i / j)) ha hb hc
theorem v_mod {i j : Int} (ha : Val ta σ H (.int i)) (hb : Val tb σ H (.int j)) (hc : 0 < j) : Val (tOp (rI (fun _ j => 0 < j) fun i j => .int (i % j)) ta tb) σ H (.int (i % j)) := v_op (C := fun _ j => 0 < j) (g := fun i j => .int (i % j)) ha hb hc
theorem v_eqi {i j : Int} (ha : Val ta σ H (.int i)) (hb : Val tb σ H (.int j)) : Val (tOp rEq ta tb) σ H (.bl (decide (i = j))) := v_is (v_eq ha hb rfl) (by congr 1; rw [Bool.eq_iff_iff]; simp)
theorem v_nei {i j : Int} (ha : Val ta σ H (.int i)) (hb : Val tb σ H (.int j)) : Val (tOp rNe ta tb) σ H (.bl (!decide (i = j))) := v_is (v_ne ha hb rfl) (by congr 2; rw [Bool.eq_iff_iff]; simp)
theorem v_len {K : PySem.W.Frag} {a : Addr} {xs : List V} (ha : Val ta σ H (.ref a)) (h : SqL K H a xs) : Val (tCB (fun xs H Q => ∃ p ys, xs = [.ref p] ∧ (SqL K H p ys ∨ SqT K H p ys) ∧ Q (.int ys.length) H) (tCons ta tNil)) σ H (.int (xs.length : Int)) := fun _ q => ha _ ⟨a, xs, rfl, .inl h, q⟩
theorem mulR {i k : Int} (h : -(2 ^ 64) < k ∧ k < 2 ^ 64) : CMul i k := .inr h
theorem mulL {i k : Int} (h : -(2 ^ 64) < i ∧ i < 2 ^ 64) : CMul i k := .inl h
/-! statements, something behind -/
theorem z_set (h : Val te σ H v) (k : tz D (σ.set i (some v)) H) : tSeq (tAsg te (gName i)) tz D σ H := h _ k
theorem z_ret (h : Val te σ H v) (k : D.rt v H) : tRet te D σ H := h _ k
theorem z_if (h : Ans t σ H b) (h1 : b = true → t1 { D with nx := tz D } σ H) (h2 : b = false → t2 { D with nx := tz D } σ H) : tSeq (tIfS t t1 t2) tz D σ H := h _ (by
  cases b with
  | true => exact h1 rfl
  | false => exact h2 rfl)
theorem s_ifs (h : Ans t σ H b) (h1 : b = true → t1 D σ H) (h2 : b = false → t2 D σ H) : tIfS t t1 t2 D σ H := h _ (by
  cases b with
  | true => exact h1 rfl
  | false => exact h2 rfl)
theorem z_drop (h : Val te σ H v) (k : tz D σ H) : tSeq (tDrop te) tz D σ H := h _ k
/-- a pair that is laid -/
theorem t_pair {Q : VK} (ha : Val ta σ H x) (hb : ∀ H1, Ex H H1 → Val tb σ H1 y) (k : ∀ p, H p = none → Q (.ref p) (upd H p (.tup [x, y]))) : tTup (tCons ta (tCons tb tNil)) σ H Q :=
  ha _ ((hb H (Evl.Ex.refl H)) _ ⟨by show 2 ≤ sizeLine; decide, k⟩)
end
/-! ### how large numbers may be -/
def Bd (n : Nat) (i : Int) : Prop := i.natAbs < 2 ^ n
theorem Bd.mul {a b : Nat} {i j : Int} (ha : Bd a i) (hb : Bd b j) : Bd (a + b) (i * j) := wide_lt ha hb
theorem Bd.add {n : Nat} {i j : Int} (ha : Bd n i) (hb : Bd n j) : Bd (n + 1) (i + j) := by
  unfold Bd at *
  rw [Nat.pow_succ]
  omega
theorem Bd.mono {a b : Nat} {i : Int} (ha : Bd a i) (h : a ≤ b) : Bd b i := Nat.lt_of_lt_of_le ha (Nat.pow_le_pow_right (by decide) h)
theorem Bd.le {a : Nat} {i j : Int} (hj : Bd a j) (h : i.natAbs ≤ j.natAbs) : Bd a i := Nat.lt_of_le_of_lt h hj
theorem Bd.mulw {a b : Nat} {i j : Int} (ha : Bd a i) (hb : Bd b j) (h0 : 0 < a) (h1 : 0 < b) (h : a + b ≤ 1000000) : CMulW i j := wide_mul ha hb h0 h1 h
theorem Bd.divw {b : Nat} {i j : Int} (h : 0 < j) (hb : Bd b j) (h0 : 0 < b) (h9 : b ≤ 9000) : CDivW i j := wide_div h hb h0 h9
end Sp
namespace Sp
open PySem L2 Mth
open Evl (Ex)
/-! ### sorted, of pairs -/
def kOf (H : Hp) : V → P2
  | .ref t => match H t with
    | some (.tup [.int i, .int j]) => (i, j)
    | _ => (0, 0)
  | _ => (0, 0)
theorem kOf_tp {H : Hp} {v : V} {p : P2} (h : Tp H v p) : kOf H v = p := by
  obtain ⟨t, rfl, e⟩ := h
  unfold kOf
  simp only [e]
theorem kOf_map {H : Hp} : ∀ {vs : List V} {ps : List P2}, Tps H vs ps → vs.map (kOf H) = ps
  | _, _, .nil => rfl
  | _, _, .cons r t => by rw [List.map_cons, kOf_tp r, kOf_map t]
theorem tps_kOf {H : Hp} : ∀ {vs : List V}, (∀ v ∈ vs, ∃ p, Tp H v p) → Tps H vs (vs.map (kOf H))
  | [], _ => .nil
  | v :: vs, h => by
    obtain ⟨p, hp⟩ := h v List.mem_cons_self
    rw [List.map_cons]
    exact .cons (by rw [kOf_tp hp]; exact hp) (tps_kOf fun u hu => h u (List.mem_cons_of_mem _ hu))
theorem tps_mem {H : Hp} : ∀ {vs : List V} {ps : List P2}, Tps H vs ps → ∀ v ∈ vs, ∃ p, Tp H v p
  | _, _, .nil, _, h => nomatch h
  | _, _, .cons r t, v, h => by
    rcases List.mem_cons.mp h with rfl | h
    · exact ⟨_, r⟩
    · exact tps_mem t v h
theorem sorted_tps {H : Hp} {vs ys : List V} {ps : List P2} (h : Tps H vs ps) (s1 : SrtO.Srtd (ltP (kOf H)) ys) (s2 : SrtO.Stb (ltP (kOf H)) ys vs) : Tps H ys (sortP ps) := by
  have h1 : Tps H ys (ys.map (kOf H)) := tps_kOf fun v hv => tps_mem h v (s2.perm.mem_iff.mp hv)
  have e : ys.map (kOf H) = sortP ps := by
    refine sortP_eq ?_ ?_
    · have := s2.perm.map (kOf H)
      rw [kOf_map h] at this
      exact this
    · refine List.pairwise_map.mpr (List.Pairwise.imp ?_ s1)
      intro a b hab
      have := SrtO.lexB_no.mp hab
      unfold leP
      simp only [Bool.or_eq_true, Bool.and_eq_true, decide_eq_true_eq]
      omega
  rw [← e]
  exact h1
theorem do_sorted {K : PySem.W.Frag} {H : Hp} {a : Addr} {ps : List P2} {Q : VK} (h : PL H a ps) (k : ∀ p ys, H p = none → Tps H ys (sortP ps) → Q (.ref p) (upd H p (.lst ys))) : rSortedPO K [.ref a] H Q := by
  obtain ⟨vs, e1, e2⟩ := h
  refine ⟨a, vs, kOf H, rfl, SqL.of e1, fun x hx => ?_, fun ys p s1 s2 hp => k p ys hp (sorted_tps e2 s1 s2)⟩
  obtain ⟨p, hp⟩ := tps_mem e2 x hx
  rw [kOf_tp hp]
  exact hp
/-- a, b = pair -/
theorem g_pair {K : PySem.W.Frag} {H : Hp} {v : V} {p : P2} {σ : St} {i j : Nat} {Q : St → Hp → Prop} (h : Tp H v p) (k : Q ((σ.set i (some (.int p.1))).set j (some (.int p.2))) H) : gTup K 2 (gCons (gName i) (gCons (gName j) gNil)) v σ H Q := by
  obtain ⟨t, rfl, e⟩ := h
  exact ⟨t, _, rfl, SqT.of e, rfl, _, _, rfl, _, _, rfl, rfl, k⟩
/-! ### sizes -/
structure Sz (ps : List P2) : Prop where
  ok : Ok ps
  cnt : Bd 400 (sm (·.2) ps)
  tot : Bd 800 (sm (fun h => ((h.2 * h.1).natAbs : Int)) ps)
  len : ps.length ≤ 10000
  pl : ∀ h ∈ ps, Bd 800 h.1
theorem sm_nonneg {F : P2 → Int} : ∀ {l : List P2}, (∀ b ∈ l, 0 ≤ F b) → 0 ≤ sm F l
  | [], _ => Int.le_refl _
  | x :: r, h => by
    rw [sm_cons]
    have := h x List.mem_cons_self
    have := sm_nonneg (l := r) fun b hb => h b (List.mem_cons_of_mem _ hb)
    omega
theorem sm_mem {F : P2 → Int} : ∀ {l : List P2} {b : P2}, (∀ b ∈ l, 0 ≤ F b) → b ∈ l → F b ≤ sm F l
  | x :: r, b, h, hb => by
    rw [sm_cons]
    have h1 := h x List.mem_cons_self
    have h2 := sm_nonneg (l := r) fun b hb => h b (List.mem_cons_of_mem _ hb)
    rcases List.mem_cons.mp hb with rfl | hb
    · omega
    · have := sm_mem (l := r) (fun b hb => h b (List.mem_cons_of_mem _ hb)) hb
      omega
/-- blocks no greater than this -/
structure Sm (N M : Int) (st : List P2) : Prop where
  pos : ∀ b ∈ st, 0 < b.1
  cnt : sm (·.1) st ≤ N
  tot : sm (fun b => (b.2.natAbs : Int)) st ≤ M
theorem Sm.mem {N M : Int} {st : List P2} (h : Sm N M st) {b : P2} (hb : b ∈ st) : 0 < b.1 ∧ b.1 ≤ N ∧ (b.2.natAbs : Int) ≤ M := by
  have h1 := h.pos b hb
  have h2 := sm_mem (F := (·.1)) (fun c hc => Int.le_of_lt (h.pos c hc)) hb
  have h3 := sm_mem (F := fun b => (b.2.natAbs : Int)) (l := st) (fun c hc => Int.natCast_nonneg _) hb
  exact ⟨h1, Int.le_trans h2 h.cnt, Int.le_trans h3 h.tot⟩
theorem Sm.bAdd {N M : Int} {st : List P2} {a b : P2} (h : Sm N M (b :: a :: st)) : Sm N M (bAdd a b :: st) := by
  obtain ⟨h1, h2, h3⟩ := h
  rw [sm_cons, sm_cons] at h2 h3
  refine ⟨fun c hc => ?_, ?_, ?_⟩
  · rcases List.mem_cons.mp hc with rfl | hc
    · have := h1 a (by simp)
      have := h1 b (by simp)
      show 0 < a.1 + b.1
      omega
    · exact h1 c (by simp [hc])
  · rw [sm_cons]
    show a.1 + b.1 + _ ≤ N
    omega
  · rw [sm_cons]
    show ((a.2 + b.2).natAbs : Int) + _ ≤ M
    have := Int.natAbs_add_le a.2 b.2
    omega
theorem Sm.push {N M : Int} : ∀ {st : List P2} {b : P2}, Sm N M (b :: st) → Sm N M (push st b)
  | [], b, h => h
  | a :: r, b, h => by
    unfold Mth.push
    split
    · exact Sm.push h.bAdd
    · exact h
end Sp
namespace Sp
open PySem L2 Mth
open Evl (Ex)
/-- a method; a class that makes -/
structure Md (P : Program) (w : World) (K : PySem.W.Frag) (mg : Str → Option Value) (base : Heap) (C : Addr) (nm : Str) (k : Nat) (ps : List Str) (sp : Sp) (f : Addr) (fd : FuncData) : Prop where
  F : FnOk P w K mg base CX0 k f fd ps sp
  m : Meth K C nm f
  b : Binds K fd ps []
  cl : Cls K C
structure Mr (P : Program) (w : World) (K : PySem.W.Frag) (mg : Str → Option Value) (base : Heap) (nm : Str) (C : Addr) (k : Nat) (ps : List Str) (sp : Sp) (f : Addr) (fd : FuncData) : Prop where
  F : FnOk P w K mg base CX0 k f fd ps sp
  m : Mk K C f
  b : Binds K fd ps []
  g : mg nm = some (.ref C)
/-- names of the built-in things that the text does not bind -/
structure Ms (mg : Str → Option Value) : Prop where
  isinstance_ : mg "isinstance" = none
  int_ : mg "int" = none
  bool_ : mg "bool" = none
  tuple_ : mg "tuple" = none
  list_ : mg "list" = none
  len_ : mg "len" = none
  sorted_ : mg "sorted" = none
  range_ : mg "range" = none
  sum_ : mg "sum" = none
  min_ : mg "min" = none
  max_ : mg "max" = none
  any_ : mg "any" = none
  all_ : mg "all" = none
  abs_ : mg "abs" = none
  str_ : mg "str" = none
theorem pr_last {α β : Type} {F : α → β → Prop} {xs : List α} {ys : List β} {y : β} (h : Paired F xs (ys ++ [y])) : ∃ xs' x, xs = xs' ++ [x] ∧ Paired F xs' ys ∧ F x y := by
  have h2 := pr_rev h
  rw [List.reverse_append, List.reverse_singleton, List.singleton_append] at h2
  generalize e : xs.reverse = zs at h2
  cases h2 with
  | cons r t =>
    rename_i x zs'
    refine ⟨zs'.reverse, x, ?_, ?_, r⟩
    · have : xs = (xs.reverse).reverse := (List.reverse_reverse xs).symm
      rw [this, e, List.reverse_cons]
    · have := pr_rev t
      rw [List.reverse_reverse] at this
      exact this
theorem pr_map {α β γ : Type} {F : α → β → Prop} {G : α → γ → Prop} {g : β → γ} : ∀ {xs : List α} {ys : List β}, Paired F xs ys → (∀ a b, F a b → G a (g b)) → Paired G xs (ys.map g)
  | _, _, .nil, _ => .nil
  | _, _, .cons r t, h => .cons (h _ _ r) (pr_map t h)
theorem pr_imp {α β : Type} {F G : α → β → Prop} {xs : List α} {ys : List β} (h : Paired F xs ys) (k : ∀ a b, F a b → G a b) : Paired G xs ys := Paired.mapP h k
theorem last_at {α : Type} (xs : List α) (x : α) : (xs ++ [x])[(xs ++ [x]).length - 1]? = some x := by simp
theorem take_snoc {α : Type} {l : List α} {i : Nat} {x : α} (h : l[i]? = some x) : l.take (i + 1) = l.take i ++ [x] := by rw [List.take_add_one, h]; rfl
theorem sm_take {F : P2 → Int} {l : List P2} {i : Nat} {x : P2} (h : l[i]? = some x) : sm F (l.take (i + 1)) = sm F (l.take i) + F x := by
  rw [take_snoc h, sm_append, sm_cons, sm_nil, Int.add_zero]
theorem sm_take_le {F : P2 → Int} {l : List P2} (i : Nat) (h : ∀ b ∈ l, 0 ≤ F b) : sm F (l.take i) ≤ sm F l := by
  have e : sm F l = sm F (l.take i) + sm F (l.drop i) := by rw [← sm_append, List.take_append_drop]
  have := sm_nonneg (F := F) (l := l.drop i) fun b hb => h b (List.mem_of_mem_drop hb)
  omega
theorem fold_take {α β : Type} {f : β → α → β} {b : β} {l : List α} {i : Nat} {x : α} (h : l[i]? = some x) : (l.take (i + 1)).foldl f b = f ((l.take i).foldl f b) x := by
  rw [take_snoc h, List.foldl_append]
  rfl
end Sp

set_option Elab.async false
set_option linter.all false
set_option maxRecDepth 100000
set_option maxHeartbeats 4000000
namespace Sp
open PySem L2 Mth Evl
/-! ### expressions that hand back pairs, lists of pairs (new ones) -/
def NL (te : TE) (σ : L2.St) (H : Hp) (qs : List P2) : Prop := ∀ H1, Ex H H1 → ∀ Q : VK, (∀ p H2, H1 p = none → Ex H1 H2 → PL H2 p qs → Q (.ref p) H2) → te σ H1 Q
def NP (te : TE) (σ : L2.St) (H : Hp) (q : P2) : Prop := ∀ H1, Ex H H1 → ∀ Q : VK, (∀ v H2, Ex H1 H2 → Tp H2 v q → Q v H2) → te σ H1 Q
def NA (ta : TA) (σ : L2.St) (H : Hp) (qs : List P2) : Prop := ∀ H1, Ex H H1 → ∀ Q : List V → Hp → Prop, (∀ vs H2, Ex H1 H2 → Tps H2 vs qs → Q vs H2) → ta σ H1 Q
/-- the slice of any list -/
def cutQ {α : Type} (xs : List α) (lo hi : Option Int) : List α := (xs.drop (HT.sIx xs.length 0 lo)).take (HT.sIx xs.length xs.length hi - HT.sIx xs.length 0 lo)
theorem cut_tps {H : Hp} {vs : List V} {ps : List P2} (h : Tps H vs ps) (lo hi : Option Int) : Tps H (cutV vs lo hi) (cutQ ps lo hi) := by
  have e := pr_len h
  unfold cutV cutQ
  rw [e]
  exact pr_take _ (pr_drop _ h)
theorem cutQ_to {α : Type} (xs : List α) (k : Nat) (h : k ≤ xs.length) : cutQ xs none (some (k : Int)) = xs.take k := by
  unfold cutQ
  rw [HT.sIx_none, HT.sIx_nat, List.drop_zero, Nat.sub_zero, Nat.min_eq_left h]
theorem cutQ_from {α : Type} (xs : List α) (k : Nat) : cutQ xs (some (k : Int)) none = xs.drop k := by
  unfold cutQ
  rw [HT.sIx_none, HT.sIx_nat]
  by_cases h : k ≤ xs.length
  · rw [Nat.min_eq_left h]
    exact List.take_of_length_le (by rw [List.length_drop]; omega)
  · rw [Nat.min_eq_right (by omega), Nat.sub_self, List.take_zero, List.drop_eq_nil_of_le (by omega)]
theorem cutQ_sub {α : Type} (xs : List α) (lo hi : Option Int) : ∀ x ∈ cutQ xs lo hi, x ∈ xs := fun x h => List.mem_of_mem_drop (List.mem_of_mem_take h)
theorem cutQ_len {α : Type} (xs : List α) (lo hi : Option Int) : (cutQ xs lo hi).length ≤ xs.length := by
  unfold cutQ
  rw [List.length_take, List.length_drop]
  omega
section
variable {K : PySem.W.Frag} {σ : L2.St} {H H' : Hp} {ta tb te : TE} {x y v : V} {p q : P2} {ps qs : List P2} {a : Addr} {tl th : TO} {lo hi : Option Int} {D : Ends} {tz : TS}
theorem NL.mono (e : Ex H H') (h : NL te σ H qs) : NL te σ H' qs := fun H1 e1 Q k => h H1 (e.trans e1) Q k
theorem NP.mono (e : Ex H H') (h : NP te σ H q) : NP te σ H' q := fun H1 e1 Q k => h H1 (e.trans e1) Q k
theorem np_var {i : Nat} (h : σ[i]? = some (some v)) (t : Tp H v q) : NP (tVar i) σ H q := fun H1 e Q k => ⟨v, h, k v H1 (Ex.refl _) (t.mono e)⟩
theorem np_pair (ha : Ev ta σ H (.int p.1)) (hb : Ev tb σ H (.int p.2)) : NP (tTup (tCons ta (tCons tb tNil))) σ H p := fun H1 e Q k =>
  ha H1 e _ fun H2 e2 => hb H2 (e.trans e2) _ fun H3 e3 => ⟨by show 2 ≤ sizeLine; decide, fun t nt => k _ _ ((e2.trans e3).trans (Ex.new nt)) ⟨t, rfl, upd_same⟩⟩
theorem np_ixL {i : Int} (ha : Ev ta σ H (.ref a)) (hb : Ev tb σ H (.int i)) (h : PL H a ps) (hi : atI ps i = some q) : NP (tOp (rIxL K) ta tb) σ H q := fun H1 e Q k =>
  ha H1 e _ fun H2 e2 => hb H2 (e.trans e2) _ fun H3 e3 => by
    obtain ⟨vs, h1, h2⟩ := h.mono ((e.trans e2).trans e3)
    obtain ⟨j, hj, hq⟩ : ∃ j, ixN ps.length i = some j ∧ ps[j]? = some q := by
      unfold atI at hi
      cases hx : ixN ps.length i with
      | none => rw [hx] at hi; cases hi
      | some j => rw [hx] at hi; exact ⟨j, rfl, hi⟩
    obtain ⟨v, hv, tv⟩ := pr_get2 h2 hq
    exact ⟨a, vs, i, v, rfl, rfl, SqL.of h1, by unfold atI; rw [pr_len h2, hj]; exact hv, k v H3 (e2.trans e3) tv⟩
/-- an item of a list that is made on the way -/
theorem np_ixN {i : Int} (ha : NL ta σ H ps) (hb : Ev tb σ H (.int i)) (hi : atI ps i = some q) : NP (tOp (rIxL K) ta tb) σ H q := fun H1 e Q k =>
  ha H1 e _ fun l H2 nl e2 h => hb H2 (e.trans e2) _ fun H3 e3 => by
    obtain ⟨vs, h1, h2⟩ := h.mono e3
    obtain ⟨j, hj, hq⟩ : ∃ j, ixN ps.length i = some j ∧ ps[j]? = some q := by
      unfold atI at hi
      cases hx : ixN ps.length i with
      | none => rw [hx] at hi; cases hi
      | some j => rw [hx] at hi; exact ⟨j, rfl, hi⟩
    obtain ⟨v, hv, tv⟩ := pr_get2 h2 hq
    exact ⟨l, vs, i, v, rfl, rfl, SqL.of h1, by unfold atI; rw [pr_len h2, hj]; exact hv, k v H3 (e2.trans e3) tv⟩
/-- a pair's number -/
theorem ev_ixP {i : Int} (ha : NP ta σ H p) (hb : Ev tb σ H (.int i)) (hi : atI ([.int p.1, .int p.2] : List V) i = some v) : Ev (tOp (rIxT K) ta tb) σ H v := fun H1 e Q k =>
  ha H1 e _ fun u H2 e2 t => hb H2 (e.trans e2) _ fun H3 e3 => by
    obtain ⟨a, rfl, h⟩ := t.mono e3
    exact ⟨a, _, i, v, rfl, rfl, SqT.of h, hi, k H3 (e2.trans e3)⟩
theorem na_nil : NA tNil σ H [] := fun H1 _ Q k => k _ _ (Ex.refl _) .nil
theorem na_cons {tr : TA} (h : NP te σ H q) (hr : NA tr σ H qs) : NA (tCons te tr) σ H (q :: qs) := fun H1 e Q k =>
  h H1 e _ fun v H2 e2 t => hr H2 (e.trans e2) _ fun vs H3 e3 ts => k _ _ (e2.trans e3) (.cons (t.mono e3) ts)
theorem nl_lst {t : TA} (h : NA t σ H qs) (hz : qs.length ≤ 100000) : NL (tLst t) σ H qs := fun H1 e Q k =>
  h H1 e _ fun vs H2 e2 ts => ⟨by rw [pr_len ts]; exact sz_of hz, fun l nl => k l _ (Evl.fresh_back e2 nl) (e2.trans (Ex.new nl)) ⟨vs, upd_same, ts.mono (Ex.new nl)⟩⟩
theorem nl_sl (ha : Ev ta σ H (.ref a)) (h1 : EvO tl σ H lo) (h2 : EvO th σ H hi) (h : PL H a ps) : NL (tSl (rSlL K) ta tl th) σ H (cutQ ps lo hi) := fun H1 e Q k =>
  ha H1 e _ fun H2 e2 => h1 H2 (e.trans e2) _ fun H3 e3 => h2 H3 ((e.trans e2).trans e3) _ fun H4 e4 => by
    obtain ⟨vs, g1, g2⟩ := h.mono (((e.trans e2).trans e3).trans e4)
    exact ⟨a, vs, rfl, SqL.of g1, fun l nl => k l _ (Evl.fresh_back ((e2.trans e3).trans e4) nl) (((e2.trans e3).trans e4).trans (Ex.new nl)) ⟨_, upd_same, (cut_tps g2 lo hi).mono (Ex.new nl)⟩⟩
theorem nl_cat (ha : NL ta σ H ps) (hb : NL tb σ H qs) (hz : ps.length + qs.length ≤ 100000) : NL (tOp rCat ta tb) σ H (ps ++ qs) := fun H1 e Q k =>
  ha H1 e _ fun l H2 nl e2 h => hb H2 (e.trans e2) _ fun b H3 nb e3 g => by
    obtain ⟨vs, h1, h2⟩ := h.mono e3
    obtain ⟨ws, g1, g2⟩ := g
    exact ⟨l, b, vs, ws, rfl, rfl, h1, g1, by rw [pr_len h2, pr_len g2]; exact sz_of hz, fun r nr => k r _ (Evl.fresh_back (e2.trans e3) nr) ((e2.trans e3).trans (Ex.new nr)) ⟨_, upd_same, pr_app (h2.mono (Ex.new nr)) (g2.mono (Ex.new nr))⟩⟩
/-- a list that stands, and a new one -/
theorem nl_catV (ha : Ev ta σ H (.ref a)) (h : PL H a ps) (hb : NL tb σ H qs) (hz : ps.length + qs.length ≤ 100000) : NL (tOp rCat ta tb) σ H (ps ++ qs) := fun H1 e Q k =>
  ha H1 e _ fun H2 e2 => hb H2 (e.trans e2) _ fun b H3 nb e3 g => by
    obtain ⟨vs, h1, h2⟩ := h.mono ((e.trans e2).trans e3)
    obtain ⟨ws, g1, g2⟩ := g
    exact ⟨a, b, vs, ws, rfl, rfl, h1, g1, by rw [pr_len h2, pr_len g2]; exact sz_of hz, fun r nr => k r _ (Evl.fresh_back (e2.trans e3) nr) ((e2.trans e3).trans (Ex.new nr)) ⟨_, upd_same, pr_app (h2.mono (Ex.new nr)) (g2.mono (Ex.new nr))⟩⟩
theorem nl_rev (ha : Ev ta σ H (.ref a)) (h : PL H a ps) : NL (tRevL K ta) σ H ps.reverse := fun H1 e Q k =>
  ha H1 e _ fun H2 e2 => by
    obtain ⟨vs, h1, h2⟩ := h.mono (e.trans e2)
    exact ⟨a, vs, rfl, SqL.of h1, fun l nl => k l _ (Evl.fresh_back e2 nl) (e2.trans (Ex.new nl)) ⟨_, upd_same, pr_rev (h2.mono (Ex.new nl))⟩⟩
theorem nl_list (ha : Ev ta σ H (.ref a)) (h : PL H a ps) : NL (tCB (fun xs H Q => ∃ p ys, xs = [.ref p] ∧ (SqL K H p ys ∨ SqT K H p ys) ∧ ∀ l, H l = none → Q (.ref l) (upd H l (.lst ys))) (tCons ta tNil)) σ H ps := fun H1 e Q k =>
  ha H1 e _ fun H2 e2 => by
    obtain ⟨vs, h1, h2⟩ := h.mono (e.trans e2)
    exact ⟨a, vs, rfl, .inl (SqL.of h1), fun l nl => k l _ (Evl.fresh_back e2 nl) (e2.trans (Ex.new nl)) ⟨_, upd_same, h2.mono (Ex.new nl)⟩⟩
theorem nl_if {b : Bool} {t : TT} (h : EvT t σ H b) (h1 : b = true → NL ta σ H qs) (h2 : b = false → NL tb σ H qs) : NL (tIf t ta tb) σ H qs := fun H1 e Q k => h H1 e _ fun H2 e2 => by
  cases b with
  | true => exact h1 rfl H2 (e.trans e2) Q fun p H3 n3 e3 g => k p H3 (Evl.fresh_back e2 n3) (e2.trans e3) g
  | false => exact h2 rfl H2 (e.trans e2) Q fun p H3 n3 e3 g => k p H3 (Evl.fresh_back e2 n3) (e2.trans e3) g
theorem nl_is (h : NL te σ H ps) (e : ps = qs) : NL te σ H qs := e ▸ h
theorem ev_is2 {w : V} (h : Ev te σ H v) (e : v = w) : Ev te σ H w := e ▸ h
/-- a == b, a != b of lists of pairs -/
theorem ev_eqPL {b : Addr} (ha : Ev ta σ H (.ref a)) (hb : Ev tb σ H (.ref b)) (h1 : PL H a ps) (h2 : PL H b qs) : Ev (tOp (rEqD K) ta tb) σ H (.bl (decide (ps = qs))) := fun H1 e Q k =>
  ha H1 e _ fun H2 e2 => hb H2 (e.trans e2) _ fun H3 e3 => eq_PL (h1.mono ((e.trans e2).trans e3)) (h2.mono ((e.trans e2).trans e3)) (k H3 (e2.trans e3))
theorem ev_nePL {b : Addr} (ha : Ev ta σ H (.ref a)) (hb : Ev tb σ H (.ref b)) (h1 : PL H a ps) (h2 : PL H b qs) : Ev (tOp (rNeD K) ta tb) σ H (.bl (!decide (ps = qs))) := fun H1 e Q k =>
  ha H1 e _ fun H2 e2 => hb H2 (e.trans e2) _ fun H3 e3 => ne_PL (h1.mono ((e.trans e2).trans e3)) (h2.mono ((e.trans e2).trans e3)) (k H3 (e2.trans e3))
/-- numbers -/
theorem e_add {i j : Int} (ha : Ev ta σ H (.int i)) (hb : Ev tb σ H (.int j)) : Ev (tOp (rI0 fun i j => .int (i + j)) ta tb) σ H (.int (i + j)) := ev_op ha hb (rv_I0 (g := fun i j => .int (i + j)))
theorem e_sub {i j : Int} (ha : Ev ta σ H (.int i)) (hb : Ev tb σ H (.int j)) : Ev (tOp (rI0 fun i j => .int (i - j)) ta tb) σ H (.int (i - j)) := ev_op ha hb (rv_I0 (g := fun i j => .int (i - j)))
theorem e_C {C : Int → Int → Prop} {g : Int → Int → V} {i j : Int} (ha : Ev ta σ H (.int i)) (hb : Ev tb σ H (.int j)) (hc : C i j) : Ev (tOp (rI C g) ta tb) σ H (g i j) := ev_op ha hb (rv_I hc)
theorem e_mul {i j : Int} (ha : Ev ta σ H (.int i)) (hb : Ev tb σ H (.int j)) (hc : CMul i j) : Ev (tOp (rI CMul fun i j => .int (i * j)) ta tb) σ H (.int (i * j)) := e_C (g := fun i j => .int (i * j)) ha hb hc
theorem e_mulW {i j : Int} (ha : Ev ta σ H (.int i)) (hb : Ev tb σ H (.int j)) (hc : CMulW i j) : Ev (tOp (rI CMulW fun i j => .int (i * j)) ta tb) σ H (.int (i * j)) := e_C (g := fun i j => .int (i * j)) ha hb hc
theorem e_div {i j : Int} (ha : Ev ta σ H (.int i)) (hb : Ev tb σ H (.int j)) (hc : CDiv i j) : Ev (tOp (rI CDiv fun i j => .int (i / j)) ta tb) σ H (.int (i / j)) := e_C (g := fun i j => .int (i / j)) ha hb hc
theorem e_divW {i j : Int} (ha : Ev ta σ H (.int i)) (hb : Ev tb σ H (.int j)) (hc : CDivW i j) : Ev (tOp (rI CDivW fun i j => .int (i / j)) ta tb) σ H (.int (i / j)) := e_C (g := fun i j => .int (i / j)) ha hb hc
theorem e_mod {i j : Int} (ha : Ev ta σ H (.int i)) (hb : Ev tb σ H (.int j)) (hc : 0 < j) : Ev (tOp (rI (fun _ j => 0 < j) fun i j => .int (i % j)) ta tb) σ H (.int (i % j)) := e_C (C := fun _ j => 0 < j) (g := fun i j => .int (i % j)) ha hb hc
theorem e_pow {i j : Int} (ha : Ev ta σ H (.int i)) (hb : Ev tb σ H (.int j)) (hc : CPow i j) : Ev (tOp (rI CPow fun i j => .int (i ^ j.toNat)) ta tb) σ H (.int (i ^ j.toNat)) := e_C (g := fun i j => .int (i ^ j.toNat)) ha hb hc
theorem e_neg {i : Int} (ha : Ev ta σ H (.int i)) : Ev (tUn (rU fun i => .int (-i)) ta) σ H (.int (-i)) := ev_un ha ru_neg
theorem e_lt {i j : Int} (ha : Ev ta σ H (.int i)) (hb : Ev tb σ H (.int j)) : EvT (tTest (tOp (rI0 fun i j => .bl (decide (i < j))) ta tb)) σ H (decide (i < j)) := et_test (ev_op ha hb (rv_I0 (g := fun i j => .bl (decide (i < j)))))
theorem e_gt {i j : Int} (ha : Ev ta σ H (.int i)) (hb : Ev tb σ H (.int j)) : EvT (tTest (tOp (rI0 fun i j => .bl (decide (j < i))) ta tb)) σ H (decide (j < i)) := et_test (ev_op ha hb (rv_I0 (g := fun i j => .bl (decide (j < i)))))
theorem e_ge {i j : Int} (ha : Ev ta σ H (.int i)) (hb : Ev tb σ H (.int j)) : EvT (tTest (tOp (rI0 fun i j => .bl (decide (j ≤ i))) ta tb)) σ H (decide (j ≤ i)) := et_test (ev_op ha hb (rv_I0 (g := fun i j => .bl (decide (j ≤ i)))))
theorem e_eqi {i j : Int} (ha : Ev ta σ H (.int i)) (hb : Ev tb σ H (.int j)) : EvT (tTest (tOp rEq ta tb)) σ H (decide (i = j)) := et_is (et_test (ev_op ha hb (rv_eq rfl))) (by rw [Bool.eq_iff_iff]; simp)
theorem e_nei {i j : Int} (ha : Ev ta σ H (.int i)) (hb : Ev tb σ H (.int j)) : EvT (tTest (tOp rNe ta tb)) σ H (!decide (i = j)) := et_is (et_test (ev_op ha hb (rv_ne rfl))) (by congr 1; rw [Bool.eq_iff_iff]; simp)
theorem e_lenL {vs : List V} (ha : Ev ta σ H (.ref a)) (h : SqL K H a vs) : Ev (tCB (fun xs H Q => ∃ p ys, xs = [.ref p] ∧ (SqL K H p ys ∨ SqT K H p ys) ∧ Q (.int ys.length) H) (tCons ta tNil)) σ H (.int (vs.length : Int)) := fun H1 e Q k =>
  ha H1 e _ fun H2 e2 => ⟨a, vs, rfl, .inl (ex_l (e.trans e2) h), k H2 e2⟩
theorem e_lenP (ha : Ev ta σ H (.ref a)) (h : PL H a ps) : Ev (tCB (fun xs H Q => ∃ p ys, xs = [.ref p] ∧ (SqL K H p ys ∨ SqT K H p ys) ∧ Q (.int ys.length) H) (tCons ta tNil)) σ H (.int (ps.length : Int)) := by
  obtain ⟨vs, h1, h2⟩ := h
  have := e_lenL (K := K) ha (SqL.of h1)
  rw [pr_len h2] at this
  exact this
/-! statements -/
theorem q_asgN {i : Nat} (h : NL te σ H qs) (k : ∀ p H1, H p = none → Ex H H1 → PL H1 p qs → tz D (σ.set i (some (.ref p))) H1) : tSeq (tAsg te (gName i)) tz D σ H := h H (Ex.refl H) _ k
theorem q_asgP {i : Nat} (h : NP te σ H q) (k : ∀ v H1, Ex H H1 → Tp H1 v q → tz D (σ.set i (some v)) H1) : tSeq (tAsg te (gName i)) tz D σ H := h H (Ex.refl H) _ k
theorem s_retN (h : NL te σ H qs) (k : ∀ p H1, H p = none → Ex H H1 → PL H1 p qs → D.rt (.ref p) H1) : tRet te D σ H := h H (Ex.refl H) _ k
theorem q_asgPair {i j : Nat} (h : NP te σ H q) (k : ∀ H1, Ex H H1 → tz D ((σ.set i (some (.int q.1))).set j (some (.int q.2))) H1) : tSeq (tAsg te (gTup K 2 (gCons (gName i) (gCons (gName j) gNil)))) tz D σ H :=
  h H (Ex.refl H) _ fun v H1 e t => g_pair t (k H1 e)
end
end Sp
namespace Sp
open PySem L2 Mth Evl
/-! ### what the law draws -/
def primes : List Int := [1000003, 1000033, 1000037, 1000039, 1000081, 1000099, 1000117, 1000121, 1000133, 1000151, 1000159, 1000171, 1000183, 1000187, 1000193, 1000199]
def cellF (ns : List Int) (k : Int) : Int := ns.getD k.toNat 0
def drawF (c k m : Int) : Int := (c * 48271 + k * 69621) % (primes.getD (k % 16).toNat 1) % m
theorem drawF_lo {c k m : Int} (h : 0 < m) : 0 ≤ drawF c k m := Int.emod_nonneg _ (by omega)
theorem drawF_hi {c k m : Int} (h : 0 < m) : drawF c k m < m := Int.emod_lt_of_pos _ h
theorem prime_at (i : Int) : ∃ p, atI (primes.map V.int) (i % 16) = some (.int p) ∧ 0 < p ∧ p = primes.getD (i % 16).toNat 1 := by
  have h1 := Int.emod_nonneg i (show (16 : Int) ≠ 0 by decide)
  have h2 := Int.emod_lt_of_pos i (show (0 : Int) < 16 by decide)
  obtain ⟨j, hj⟩ : ∃ j : Nat, i % 16 = (j : Int) := ⟨(i % 16).toNat, by omega⟩
  rw [hj]
  have hj16 : j < 16 := by omega
  have hlen : primes.length = 16 := rfl
  have hg : primes[j]? = some (primes.getD j 1) := by
    rw [List.getD_eq_getElem?_getD, List.getElem?_eq_getElem (by omega)]
    rfl
  refine ⟨primes.getD j 1, atI_nat (by rw [List.getElem?_map, hg]; rfl), ?_, by rw [Int.toNat_natCast]⟩
  have all : ∀ p ∈ primes, 0 < p := by decide
  exact all _ (List.mem_of_getElem? hg)
def most4 (i : Int) : Int := ([3, 20, 1000000, 5] : List Int).getD i.toNat 1
def wide4 (i : Int) : Int := ([5, 60, 1000000, 9] : List Int).getD i.toNat 1
theorem four_at (l : List Int) (hl : l.length = 4) {i : Int} (h0 : 0 ≤ i) (h4 : i < 4) : atI (l.map V.int) i = some (.int (l.getD i.toNat 1)) := by
  obtain ⟨j, rfl⟩ : ∃ j : Nat, i = (j : Int) := ⟨i.toNat, by omega⟩
  refine atI_nat ?_
  rw [List.getElem?_map, Int.toNat_natCast, List.getD_eq_getElem?_getD, List.getElem?_eq_getElem (by omega)]
  rfl
def evenH (ns : List Int) (i : Nat) : P2 := (cellF ns (2 * i : Int) / 2 % 10 ^ 40 * (1 - cellF ns (2 * i : Int) % 2 * 2), cellF ns (2 * i + 1 : Int) % 10 ^ 40)
def oddH (ns : List Int) (i : Nat) : P2 :=
  (drawF (cellF ns i) ((i : Int) % 5 + 1) (wide4 (drawF (cellF ns 1) 7 4)) - wide4 (drawF (cellF ns 1) 7 4) / 2, drawF (cellF ns i) ((i : Int) % 7 + 2) (most4 (drawF (cellF ns 0) 6 4)))
def heapsF (ns : List Int) : List P2 := if ns.length % 2 = 0 then (List.range (ns.length / 2)).map (evenH ns) else (List.range ns.length).map (oddH ns)
/-- heaps no greater than this -/
structure HB (L : Nat) (ps : List P2) : Prop where
  len : ps.length ≤ L
  ok : ∀ h ∈ ps, 0 ≤ h.2 ∧ Bd 200 h.2 ∧ Bd 200 h.1
theorem wide4_pos {i : Int} (h0 : 0 ≤ i) (h4 : i < 4) : 0 < wide4 i ∧ wide4 i ≤ 1000000 := by
  have : i = 0 ∨ i = 1 ∨ i = 2 ∨ i = 3 := by omega
  rcases this with rfl | rfl | rfl | rfl <;> decide
theorem most4_pos {i : Int} (h0 : 0 ≤ i) (h4 : i < 4) : 0 < most4 i ∧ most4 i ≤ 1000000 := by
  have : i = 0 ∨ i = 1 ∨ i = 2 ∨ i = 3 := by omega
  rcases this with rfl | rfl | rfl | rfl <;> decide
theorem ten40 : (10 : Int) ^ 40 = 10000000000000000000000000000000000000000 := by decide
theorem two200 : (2 : Nat) ^ 200 = 1606938044258990275541962092341162602522202993782792835301376 := by decide
theorem evenH_ok (ns : List Int) (i : Nat) : 0 ≤ (evenH ns i).2 ∧ (evenH ns i).2 < 10 ^ 40 ∧ (evenH ns i).1.natAbs < 10 ^ 40 := by
  unfold evenH
  generalize cellF ns (2 * i : Int) = x
  generalize cellF ns (2 * i + 1 : Int) = y
  have p0 : (0 : Int) < 10 ^ 40 := by decide
  have a1 := Int.emod_nonneg y (show (10 : Int) ^ 40 ≠ 0 by decide)
  have a2 := Int.emod_lt_of_pos y p0
  have b1 := Int.emod_nonneg (x / 2) (show (10 : Int) ^ 40 ≠ 0 by decide)
  have b2 := Int.emod_lt_of_pos (x / 2) p0
  refine ⟨a1, a2, ?_⟩
  show (x / 2 % 10 ^ 40 * (1 - x % 2 * 2)).natAbs < 10 ^ 40
  have h : 1 - x % 2 * 2 = 1 ∨ 1 - x % 2 * 2 = -1 := by omega
  generalize x / 2 % 10 ^ 40 = z at *
  have e : (10 : Nat) ^ 40 = 10000000000000000000000000000000000000000 := by decide
  rw [ten40] at b2
  rw [e]
  rcases h with h | h <;> rw [h] <;> omega
theorem oddH_ok (ns : List Int) (i : Nat) : 0 ≤ (oddH ns i).2 ∧ (oddH ns i).2 < 1000000 ∧ (oddH ns i).1.natAbs < 1000001 := by
  unfold oddH
  obtain ⟨w1, w2⟩ := wide4_pos (drawF_lo (c := cellF ns 1) (k := 7) (m := 4) (by decide)) (drawF_hi (by decide))
  obtain ⟨m1, m2⟩ := most4_pos (drawF_lo (c := cellF ns 0) (k := 6) (m := 4) (by decide)) (drawF_hi (by decide))
  generalize wide4 (drawF (cellF ns 1) 7 4) = w at *
  generalize most4 (drawF (cellF ns 0) 6 4) = m at *
  have a1 := drawF_lo (c := cellF ns i) (k := (i : Int) % 5 + 1) w1
  have a2 := drawF_hi (c := cellF ns i) (k := (i : Int) % 5 + 1) w1
  have b1 := drawF_lo (c := cellF ns i) (k := (i : Int) % 7 + 2) m1
  have b2 := drawF_hi (c := cellF ns i) (k := (i : Int) % 7 + 2) m1
  refine ⟨b1, by show drawF _ _ m < _; omega, ?_⟩
  show (drawF _ _ w - w / 2).natAbs < _
  omega
/-- each heap of the law's: no more than forty figures -/
theorem heapsF_40 (ns : List Int) : ∀ h ∈ heapsF ns, 0 ≤ h.2 ∧ h.2 < 10 ^ 40 ∧ h.1.natAbs < 10 ^ 40 := by
  intro h hh
  unfold heapsF at hh
  split at hh
  · obtain ⟨i, _, rfl⟩ := List.mem_map.mp hh
    exact evenH_ok ns i
  · obtain ⟨i, _, rfl⟩ := List.mem_map.mp hh
    obtain ⟨h1, h2, h3⟩ := oddH_ok ns i
    have e : (10 : Nat) ^ 40 = 10000000000000000000000000000000000000000 := by decide
    rw [ten40, e]
    refine ⟨h1, by omega, by omega⟩
theorem heapsF_len (ns : List Int) : (heapsF ns).length ≤ ns.length := by
  unfold heapsF
  split
  · rw [List.length_map, List.length_range]; omega
  · rw [List.length_map, List.length_range]; omega
theorem heapsF_hb {ns : List Int} (h : ns.length ≤ 63) : HB 63 (heapsF ns) := by
  refine ⟨Nat.le_trans (heapsF_len ns) h, fun x hx => ?_⟩
  obtain ⟨h1, h2, h3⟩ := heapsF_40 ns x hx
  have e : (10 : Nat) ^ 40 = 10000000000000000000000000000000000000000 := by decide
  rw [e] at h3
  rw [ten40] at h2
  unfold Bd
  rw [two200]
  refine ⟨h1, by omega, by omega⟩
theorem HB.le {L M : Nat} {ps : List P2} (h : HB L ps) (hm : L ≤ M) : HB M ps := ⟨Nat.le_trans h.len hm, h.ok⟩
theorem HB.app {L M : Nat} {ps qs : List P2} (h : HB L ps) (k : HB M qs) : HB (L + M) (ps ++ qs) := by
  refine ⟨by rw [List.length_append]; have := h.len; have := k.len; omega, fun x hx => ?_⟩
  rcases List.mem_append.mp hx with hx | hx
  · exact h.ok x hx
  · exact k.ok x hx
theorem HB.sub {L : Nat} {ps qs : List P2} (h : HB L ps) (hl : qs.length ≤ ps.length) (hm : ∀ x ∈ qs, x ∈ ps) : HB L qs := ⟨Nat.le_trans hl h.len, fun x hx => h.ok x (hm x hx)⟩
theorem HB.cut {L : Nat} {ps : List P2} (h : HB L ps) (lo hi : Option Int) : HB L (cutQ ps lo hi) := h.sub (cutQ_len _ _ _) (cutQ_sub _ _ _)
theorem sm_bound {F : P2 → Int} {B : Nat} : ∀ {l : List P2}, (∀ b ∈ l, 0 ≤ F b ∧ (F b).natAbs ≤ B) → 0 ≤ sm F l ∧ (sm F l).natAbs ≤ l.length * B
  | [], _ => by simp [sm]
  | x :: r, h => by
    obtain ⟨h1, h2⟩ := h x List.mem_cons_self
    obtain ⟨h3, h4⟩ := sm_bound (l := r) fun b hb => h b (List.mem_cons_of_mem _ hb)
    rw [sm_cons, List.length_cons, Nat.add_mul, Nat.one_mul]
    omega
theorem HB.sz {L : Nat} {ps : List P2} (h : HB L ps) (hL : L ≤ 1000) : Sz ps := by
  have e1 : 1000 * 2 ^ 200 < 2 ^ 400 := by
    have : 1000 < 2 ^ 10 := by decide
    have : 1000 * 2 ^ 200 < 2 ^ 10 * 2 ^ 200 := Nat.mul_lt_mul_of_pos_right this (Nat.two_pow_pos 200)
    rw [← Nat.pow_add] at this
    exact Nat.lt_trans this (Nat.pow_lt_pow_right (by decide) (by decide))
  have e2 : 1000 * 2 ^ 400 < 2 ^ 800 := by
    have : 1000 < 2 ^ 10 := by decide
    have : 1000 * 2 ^ 400 < 2 ^ 10 * 2 ^ 400 := Nat.mul_lt_mul_of_pos_right this (Nat.two_pow_pos 400)
    rw [← Nat.pow_add] at this
    exact Nat.lt_trans this (Nat.pow_lt_pow_right (by decide) (by decide))
  have l1 := h.len
  refine ⟨fun x hx => (h.ok x hx).1, ?_, ?_, by omega, fun x hx => (h.ok x hx).2.2.mono (by decide)⟩
  · have := (sm_bound (F := (·.2)) (B := 2 ^ 200) (l := ps) fun b hb => ⟨(h.ok b hb).1, Nat.le_of_lt (h.ok b hb).2.1⟩).2
    refine Nat.lt_of_le_of_lt (Nat.le_trans this (Nat.mul_le_mul_right _ (show ps.length ≤ 1000 by omega))) e1
  · have := (sm_bound (F := fun h => ((h.2 * h.1).natAbs : Int)) (B := 2 ^ 400) (l := ps) fun b hb => ⟨Int.natCast_nonneg _, by
      rw [Int.natAbs_natCast]
      exact Nat.le_of_lt ((h.ok b hb).2.1.mul (h.ok b hb).2.2)⟩).2
    refine Nat.lt_of_le_of_lt (Nat.le_trans this (Nat.mul_le_mul_right _ (show ps.length ≤ 1000 by omega))) e2
end Sp
namespace Sp
open PySem L2 Mth Evl
section
variable {K : PySem.W.Frag} {σ : L2.St} {H H' : Hp} {ta tb te : TE} {x y v : V} {p q : P2} {ps qs : List P2} {a : Addr} {D : Ends} {tz : TS}
theorem q_par {i j : Nat} {t : TA} (h : EvA t σ H [x, y]) (k : ∀ H1, Ex H H1 → tz D ((σ.set i (some x)).set j (some y)) H1) : tSeq (tPar i j t) tz D σ H := h H (Ex.refl H) _ fun H1 e => ⟨x, y, rfl, k H1 e⟩
theorem atI_ex {α : Type} (l : List α) {i : Int} (h0 : 0 ≤ i) (h : i < l.length) : ∃ x ∈ l, atI l i = some x := by
  obtain ⟨j, rfl⟩ : ∃ j : Nat, i = (j : Int) := ⟨i.toNat, by omega⟩
  exact ⟨l[j], List.getElem_mem _, atI_nat (List.getElem?_eq_getElem (by omega))⟩
theorem e_isBl {b c : Bool} (ha : Ev ta σ H (.bl b)) (hb : Ev tb σ H (.bl c)) : Ev (tOp rIsB ta tb) σ H (.bl (decide (b = c))) := ev_op ha hb fun H1 _ Q q => ⟨b, c, rfl, rfl, q H1 (Ex.refl _)⟩
theorem e_notBl {b c : Bool} (ha : Ev ta σ H (.bl b)) (hb : Ev tb σ H (.bl c)) : Ev (tOp rNotB ta tb) σ H (.bl (!decide (b = c))) := ev_op ha hb fun H1 _ Q q => ⟨b, c, rfl, rfl, q H1 (Ex.refl _)⟩
theorem e_isi {u : Value} {c : V} {t : Value} {b : Bool} (ha : Ev ta σ H x) (hb : Ev tb σ H c) (hc : ClsV c u) (ht : ∀ H1, Ex H H1 → TyX K H1 x t) (hk : PySem.W.kitOne K t u = some b) : Ev (tCB (rIsi K) (tCons ta (tCons tb tNil))) σ H (.bl b) := fun H1 e Q q =>
  ha H1 e _ fun H2 e2 => hb H2 (e.trans e2) _ fun H3 e3 => ⟨x, c, t, u, b, rfl, hc, ht H3 ((e.trans e2).trans e3), hk, q H3 (e2.trans e3)⟩
theorem ev_lstI {i : Int} {vs : List V} (ha : Ev ta σ H (.ref a)) (hb : Ev tb σ H (.int i)) (h : SqL K H a vs) (hi : atI vs i = some v) : Ev (tOp (rIxL K) ta tb) σ H v := ev_op ha hb (rv_ixL h hi)
end
end Sp

set_option Elab.async false
set_option linter.all false
set_option maxRecDepth 100000
set_option maxHeartbeats 4000000
namespace Sp
open PySem L2 Mth Evl
/-! ### some list of pairs, new or not -/
def SL (te : TE) (σ : L2.St) (H : Hp) (qs : List P2) : Prop := ∀ H1, Ex H H1 → ∀ Q : VK, (∀ p H2, Ex H1 H2 → PL H2 p qs → Q (.ref p) H2) → te σ H1 Q

section
variable {K : PySem.W.Frag} {σ : L2.St} {H H' : Hp} {ta tb te tl : TE} {t tt : TT} {x y v : V} {p q : P2} {ps qs : List P2} {a : Addr} {D : Ends} {tz tu : TS} {tlo thi : TO} {lo hi : Option Int}
theorem SL.mono (e : Ex H H') (h : SL te σ H qs) : SL te σ H' qs := fun H1 e1 Q k => h H1 (e.trans e1) Q k
theorem NL.sl (h : NL te σ H qs) : SL te σ H qs := fun H1 e Q k => h H1 e Q fun p H2 _ e2 g => k p H2 e2 g
theorem sl_of (ha : Ev te σ H (.ref a)) (h : PL H a ps) : SL te σ H ps := fun H1 e Q k => ha H1 e _ fun H2 e2 => k a H2 e2 (h.mono (e.trans e2))
theorem sl_is (h : SL te σ H ps) (e : ps = qs) : SL te σ H qs := e ▸ h
theorem nl_slS (ha : SL ta σ H ps) (h1 : EvO tlo σ H lo) (h2 : EvO thi σ H hi) : NL (tSl (rSlL K) ta tlo thi) σ H (cutQ ps lo hi) := fun H1 e Q k =>
  ha H1 e _ fun a H2 e2 h => h1 H2 (e.trans e2) _ fun H3 e3 => h2 H3 ((e.trans e2).trans e3) _ fun H4 e4 => by
    obtain ⟨vs, g1, g2⟩ := h.mono (e3.trans e4)
    exact ⟨a, vs, rfl, SqL.of g1, fun l nl => k l _ (Evl.fresh_back ((e2.trans e3).trans e4) nl) (((e2.trans e3).trans e4).trans (Ex.new nl)) ⟨_, upd_same, (cut_tps g2 lo hi).mono (Ex.new nl)⟩⟩
theorem nl_catS (ha : SL ta σ H ps) (hb : SL tb σ H qs) (hz : ps.length + qs.length ≤ 100000) : NL (tOp rCat ta tb) σ H (ps ++ qs) := fun H1 e Q k =>
  ha H1 e _ fun l H2 e2 h => hb H2 (e.trans e2) _ fun b H3 e3 g => by
    obtain ⟨vs, h1, h2⟩ := h.mono e3
    obtain ⟨ws, g1, g2⟩ := g
    exact ⟨l, b, vs, ws, rfl, rfl, h1, g1, by rw [pr_len h2, pr_len g2]; exact sz_of hz, fun r nr => k r _ (Evl.fresh_back (e2.trans e3) nr) ((e2.trans e3).trans (Ex.new nr)) ⟨_, upd_same, pr_app (h2.mono (Ex.new nr)) (g2.mono (Ex.new nr))⟩⟩
theorem nl_revS (ha : SL ta σ H ps) : NL (tRevL K ta) σ H ps.reverse := fun H1 e Q k =>
  ha H1 e _ fun a H2 e2 h => by
    obtain ⟨vs, h1, h2⟩ := h
    exact ⟨a, vs, rfl, SqL.of h1, fun l nl => k l _ (Evl.fresh_back e2 nl) (e2.trans (Ex.new nl)) ⟨_, upd_same, pr_rev (h2.mono (Ex.new nl))⟩⟩
theorem e_eqS (ha : SL ta σ H ps) (hb : SL tb σ H qs) : Ev (tOp (rEqD K) ta tb) σ H (.bl (decide (ps = qs))) := fun H1 e Q k =>
  ha H1 e _ fun a H2 e2 h => hb H2 (e.trans e2) _ fun b H3 e3 g => eq_PL (h.mono e3) g (k H3 (e2.trans e3))
theorem e_neS (ha : SL ta σ H ps) (hb : SL tb σ H qs) : Ev (tOp (rNeD K) ta tb) σ H (.bl (!decide (ps = qs))) := fun H1 e Q k =>
  ha H1 e _ fun a H2 e2 h => hb H2 (e.trans e2) _ fun b H3 e3 g => ne_PL (h.mono e3) g (k H3 (e2.trans e3))
theorem e_lenS (ha : SL ta σ H ps) : Ev (tCB (fun xs H Q => ∃ p ys, xs = [.ref p] ∧ (SqL K H p ys ∨ SqT K H p ys) ∧ Q (.int ys.length) H) (tCons ta tNil)) σ H (.int (ps.length : Int)) := fun H1 e Q k =>
  ha H1 e _ fun a H2 e2 h => by
    obtain ⟨vs, h1, h2⟩ := h
    have := k H2 e2
    rw [← pr_len h2] at this
    exact ⟨a, vs, rfl, .inl (SqL.of h1), this⟩
theorem np_ixS {i : Int} (ha : SL ta σ H ps) (hb : Ev tb σ H (.int i)) (hi : atI ps i = some q) : NP (tOp (rIxL K) ta tb) σ H q := fun H1 e Q k =>
  ha H1 e _ fun l H2 e2 h => hb H2 (e.trans e2) _ fun H3 e3 => by
    obtain ⟨vs, h1, h2⟩ := h.mono e3
    obtain ⟨j, hj, hq⟩ : ∃ j, ixN ps.length i = some j ∧ ps[j]? = some q := by
      unfold atI at hi
      cases hx : ixN ps.length i with
      | none => rw [hx] at hi; cases hi
      | some j => rw [hx] at hi; exact ⟨j, rfl, hi⟩
    obtain ⟨v, hv, tv⟩ := pr_get2 h2 hq
    exact ⟨l, vs, i, v, rfl, rfl, SqL.of h1, by unfold atI; rw [pr_len h2, hj]; exact hv, k v H3 (e2.trans e3) tv⟩
theorem nl_sorted (ha : SL ta σ H ps) : NL (tCB (rSortedPO K) (tCons ta tNil)) σ H (sortP ps) := fun H1 e Q k =>
  ha H1 e _ fun a H2 e2 h => do_sorted h fun l ys nl ht => k l _ (Evl.fresh_back e2 nl) (e2.trans (Ex.new nl)) ⟨ys, upd_same, ht.mono (Ex.new nl)⟩
/-! comprehensions over pairs -/
theorem lcP_core {i j : Nat} {vs : List Nat} (f : P2 → Bool) (R : Hp → List V → List P2 → Prop) (hR0 : ∀ H, R H [] []) (hm : ∀ H H' vs qs, Ex H H' → R H vs qs → R H' vs qs)
    (hu : ∀ H D xs ys vs qs, H D = some (.lst xs) → R H vs qs → R (upd H D (.lst ys)) vs qs)
    (hw : ∀ x y, wipe (((wipe σ vs).set i (some x)).set j (some y)) vs = wipe σ vs) (hs : SL tl σ H ps) (hz : ps.length ≤ 50000)
    (ht : ∀ q ∈ ps, ∀ H1, Ex H H1 → EvT tt (((wipe σ vs).set i (some (.int q.1))).set j (some (.int q.2))) H1 (f q))
    (he : ∀ q ∈ ps, f q = true → ∀ H1, Ex H H1 → ∀ acc qs, R H1 acc qs → ∀ Q : VK, (∀ v H2, Ex H1 H2 → R H2 (acc ++ [v]) (qs ++ [q]) → Q v H2) → te (((wipe σ vs).set i (some (.int q.1))).set j (some (.int q.2))) H1 Q) :
    ∀ H1, Ex H H1 → ∀ Q : VK, (∀ p H2 vs, H1 p = none → Ex H1 H2 → H2 p = some (.lst vs) → R H2 vs (ps.filter f) → Q (.ref p) H2) → tLc (iList K tl) (gTup K 2 (gCons (gName i) (gCons (gName j) gNil))) tt te vs σ H1 Q := fun H0 e0 Q k =>
  hs H0 e0 _ fun a H1 e1 hp => by
    obtain ⟨xs, hx, hxp⟩ := hp
    refine ⟨a, rfl, ⟨xs, SqL.of hx⟩, fun Dl hD => ?_⟩
    have nad : a ≠ Dl := fun z => by rw [z, hD] at hx; cases hx
    refine lc_list (xs := xs) (fun n H' => ∃ acc, Ex H1 H' ∧ H' Dl = some (.lst acc) ∧ H' a = some (.lst xs) ∧ Tps H' xs ps ∧ R H' acc ((ps.take n).filter f) ∧ acc.length ≤ n)
      ⟨[], Ex.new hD, upd_same, by rw [upd_ne nad]; exact hx, hxp.mono (Ex.new hD), hR0 _, Nat.le_refl _⟩ (fun n H' _ ⟨_, _, _, h, _⟩ => SqL.of h) ?_ ?_
    · rintro n x H' hn ⟨acc, e2, hd, ha, ht2, hr, hl⟩
      obtain ⟨q, hq, tq⟩ := pr_get ht2 hn
      refine g_pair tq ⟨hw _ _, ?_⟩
      have hqm := List.mem_of_getElem? hq
      have hnl : n < ps.length := (List.getElem?_eq_some_iff.mp hq).1
      rw [take_snoc hq, List.filter_append]
      have e02 := (e0.trans e1).trans e2
      refine ht q hqm H' e02 H' (Ex.refl _) _ fun H3 e3 => ?_
      cases hf : f q with
      | true =>
        rw [if_pos rfl]
        refine he q hqm hf H3 (e02.trans e3) acc _ (hm _ _ _ _ e3 hr) _ fun v H4 e4 hr4 => ?_
        have hd4 := e4 _ _ (e3 _ _ hd)
        refine ⟨acc, hd4, sz_lt (by omega), acc ++ [v], Ex.mut ((e2.trans e3).trans e4) hD, upd_same, by rw [upd_ne nad]; exact e4 _ _ (e3 _ _ ha), ((ht2.mono e3).mono e4).upd hd4, ?_, by rw [List.length_append, List.length_singleton]; omega⟩
        have e5 : [q].filter f = [q] := by simp [hf]
        rw [e5]
        exact hu _ _ _ _ _ _ hd4 hr4
      | false =>
        rw [if_neg Bool.false_ne_true]
        have e5 : [q].filter f = [] := by simp [hf]
        rw [e5, List.append_nil]
        exact ⟨acc, e2.trans e3, e3 _ _ hd, e3 _ _ ha, ht2.mono e3, hm _ _ _ _ e3 hr, by omega⟩
    · rintro H' ⟨acc, e2, hd, ha, ht2, hr, hl⟩
      have el := pr_len hxp
      rw [el, List.take_length] at hr
      exact k Dl H' acc (Evl.fresh_back e1 hD) (e1.trans e2) hd hr
/-- values -/
theorem lcP_val {i j : Nat} {vs : List Nat} (f : P2 → Bool) (g : P2 → V) (hw : ∀ x y, wipe (((wipe σ vs).set i (some x)).set j (some y)) vs = wipe σ vs) (hs : SL tl σ H ps) (hz : ps.length ≤ 50000)
    (ht : ∀ q ∈ ps, ∀ H1, Ex H H1 → EvT tt (((wipe σ vs).set i (some (.int q.1))).set j (some (.int q.2))) H1 (f q))
    (he : ∀ q ∈ ps, f q = true → ∀ H1, Ex H H1 → Ev te (((wipe σ vs).set i (some (.int q.1))).set j (some (.int q.2))) H1 (g q)) :
    EvL (tLc (iList K tl) (gTup K 2 (gCons (gName i) (gCons (gName j) gNil))) tt te vs) σ H ((ps.filter f).map g) := fun H1 e Q k =>
  lcP_core f (fun _ vs qs => vs = qs.map g) (fun _ => rfl) (fun _ _ _ _ _ h => h) (fun _ _ _ _ _ _ _ h => h) hw hs hz ht (fun q hq hf H1 e1 acc qs hr Q k => he q hq hf H1 e1 H1 (Ex.refl _) Q fun H2 e2 => k _ H2 e2 (by rw [hr, List.map_append]; rfl)) H1 e Q
    fun p H2 vs np e2 hp hr => k p H2 np e2 (by rw [hp, hr])
theorem et_yes : EvT tYes σ H true := fun H1 _ _ q => q H1 (Ex.refl _)
theorem lcP_all {i j : Nat} {vs : List Nat} (g : P2 → V) (hw : ∀ x y, wipe (((wipe σ vs).set i (some x)).set j (some y)) vs = wipe σ vs) (hs : SL tl σ H ps) (hz : ps.length ≤ 50000)
    (he : ∀ q ∈ ps, ∀ H1, Ex H H1 → Ev te (((wipe σ vs).set i (some (.int q.1))).set j (some (.int q.2))) H1 (g q)) :
    EvL (tLc (iList K tl) (gTup K 2 (gCons (gName i) (gCons (gName j) gNil))) tYes te vs) σ H (ps.map g) := by
  have := lcP_val (K := K) (tt := tYes) (fun _ => true) g hw hs hz (fun _ _ _ _ => et_yes) (fun q hq _ => he q hq)
  rw [List.filter_eq_self.mpr (fun _ _ => rfl)] at this
  exact this
/-- pairs -/
theorem lcP_pair {i j : Nat} {vs : List Nat} (f : P2 → Bool) (g : P2 → P2) (hw : ∀ x y, wipe (((wipe σ vs).set i (some x)).set j (some y)) vs = wipe σ vs) (hs : SL tl σ H ps) (hz : ps.length ≤ 50000)
    (ht : ∀ q ∈ ps, ∀ H1, Ex H H1 → EvT tt (((wipe σ vs).set i (some (.int q.1))).set j (some (.int q.2))) H1 (f q))
    (he : ∀ q ∈ ps, f q = true → ∀ H1, Ex H H1 → NP te (((wipe σ vs).set i (some (.int q.1))).set j (some (.int q.2))) H1 (g q)) :
    NL (tLc (iList K tl) (gTup K 2 (gCons (gName i) (gCons (gName j) gNil))) tt te vs) σ H ((ps.filter f).map g) := fun H1 e Q k =>
  lcP_core f (fun H vs qs => Tps H vs (qs.map g)) (fun _ => .nil) (fun _ _ _ _ e h => h.mono e) (fun _ _ _ _ _ _ hd h => h.upd hd) hw hs hz ht (fun q hq hf H1 e1 acc qs hr Q k => he q hq hf H1 e1 H1 (Ex.refl _) Q fun v H2 e2 tv => k _ H2 e2 (by rw [List.map_append]; exact pr_app (hr.mono e2) (.cons tv .nil))) H1 e Q
    fun p H2 vs np e2 hp hr => k p H2 np e2 ⟨vs, hp, hr⟩
theorem lcP_pairs {i j : Nat} {vs : List Nat} (g : P2 → P2) (hw : ∀ x y, wipe (((wipe σ vs).set i (some x)).set j (some y)) vs = wipe σ vs) (hs : SL tl σ H ps) (hz : ps.length ≤ 50000)
    (he : ∀ q ∈ ps, ∀ H1, Ex H H1 → NP te (((wipe σ vs).set i (some (.int q.1))).set j (some (.int q.2))) H1 (g q)) :
    NL (tLc (iList K tl) (gTup K 2 (gCons (gName i) (gCons (gName j) gNil))) tYes te vs) σ H (ps.map g) := by
  have := lcP_pair (K := K) (tt := tYes) (fun _ => true) g hw hs hz (fun _ _ _ _ => et_yes) (fun q hq _ => he q hq)
  rw [List.filter_eq_self.mpr (fun _ _ => rfl)] at this
  exact this
/-- over pairs by one name: a value of each -/
theorem lcN_all {i : Nat} {vs : List Nat} (g : P2 → V) (hw : ∀ x, wipe ((wipe σ vs).set i (some x)) vs = wipe σ vs) (hs : SL tl σ H ps) (hz : ps.length ≤ 50000)
    (he : ∀ q ∈ ps, ∀ H1 x, Ex H H1 → Tp H1 x q → Ev te ((wipe σ vs).set i (some x)) H1 (g q)) :
    EvL (tLc (iList K tl) (gName i) tYes te vs) σ H (ps.map g) := fun H0 e0 Q k =>
  hs H0 e0 _ fun a H1 e1 hp => by
    obtain ⟨xs, hx, hxp⟩ := hp
    refine ⟨a, rfl, ⟨xs, SqL.of hx⟩, fun Dl hD => ?_⟩
    have nad : a ≠ Dl := fun z => by rw [z, hD] at hx; cases hx
    refine lc_list (xs := xs) (fun n H' => Ex H1 H' ∧ H' Dl = some (.lst ((ps.take n).map g)) ∧ H' a = some (.lst xs) ∧ Tps H' xs ps)
      ⟨Ex.new hD, upd_same, by rw [upd_ne nad]; exact hx, hxp.mono (Ex.new hD)⟩ (fun n H' _ ⟨_, _, h, _⟩ => SqL.of h) ?_ ?_
    · rintro n x H' hn ⟨e2, hd, ha, ht2⟩
      obtain ⟨q, hq, tq⟩ := pr_get ht2 hn
      refine ⟨hw _, ?_⟩
      have hnl : n < ps.length := (List.getElem?_eq_some_iff.mp hq).1
      have e02 := (e0.trans e1).trans e2
      refine he q (List.mem_of_getElem? hq) H' x e02 tq H' (Ex.refl _) _ fun H3 e3 => ⟨_, e3 _ _ hd, sz_lt (by rw [List.length_map, List.length_take]; omega), Ex.mut (e2.trans e3) hD, ?_, by rw [upd_ne nad]; exact e3 _ _ ha, (ht2.mono e3).upd (e3 _ _ hd)⟩
      rw [take_snoc hq, List.map_append]
      exact upd_same
    · rintro H' ⟨e2, hd, ha, ht2⟩
      have el := pr_len hxp
      rw [el, List.take_length] at hd
      exact k Dl H' (Evl.fresh_back e1 hD) (e1.trans e2) hd
/-! sums, all, any -/
theorem e_sum {ns : List Int} (h : EvL ta σ H (ns.map V.int)) : Ev (tCB (rSum K) (tCons ta tNil)) σ H (.int ns.sum) := fun H1 e Q k =>
  h H1 e _ fun p H2 _ e2 hp => ⟨p, ns, rfl, SqL.of hp, k H2 e2⟩
theorem e_any {bs : List Bool} (h : EvL ta σ H (bs.map V.bl)) : Ev (tCB (rAny K) (tCons ta tNil)) σ H (.bl (bs.any id)) := fun H1 e Q k =>
  h H1 e _ fun p H2 _ e2 hp => ⟨p, bs, rfl, SqL.of hp, k H2 e2⟩
theorem e_all {bs : List Bool} (h : EvL ta σ H (bs.map V.bl)) : Ev (tCB (rAll K) (tCons ta tNil)) σ H (.bl (bs.all id)) := fun H1 e Q k =>
  h H1 e _ fun p H2 _ e2 hp => ⟨p, bs, rfl, SqL.of hp, k H2 e2⟩
theorem el_is {xs ys : List V} (h : EvL ta σ H xs) (e : xs = ys) : EvL ta σ H ys := e ▸ h
theorem e_intB {b : Bool} (h : Ev ta σ H (.bl b)) : Ev (tCB (fun xs H Q => (∃ i, xs = [.int i] ∧ Q (.int i) H) ∨ ∃ k, xs = [.bl k] ∧ Q (.int (if k then 1 else 0)) H) (tCons ta tNil)) σ H (.int (if b then 1 else 0)) := fun H1 e Q k =>
  h H1 e _ fun H2 e2 => .inr ⟨b, rfl, k H2 e2⟩
/-- a <= b <= c -/
theorem e_chain {i j k : Int} (ha : Ev ta σ H (.int i)) (hb : Ev tb σ H (.int j)) (hc : Ev te σ H (.int k)) :
    Ev (tChain (rI0 fun i j => .bl (decide (i ≤ j))) (rI0 fun i j => .bl (decide (i ≤ j))) ta tb te) σ H (.bl (decide (i ≤ j) && decide (j ≤ k))) := fun H1 e Q q =>
  ha H1 e _ fun H2 e2 => hb H2 (e.trans e2) _ fun H3 e3 => ⟨i, j, rfl, rfl, decide (i ≤ j), rfl, by
    by_cases c : i ≤ j
    · rw [decide_eq_true c] at q ⊢
      rw [if_pos rfl]
      exact hc H3 ((e.trans e2).trans e3) _ fun H4 e4 => ⟨j, k, rfl, rfl, by rw [Bool.true_and] at q; exact q H4 ((e2.trans e3).trans e4)⟩
    · rw [decide_eq_false c] at q ⊢
      rw [if_neg Bool.false_ne_true]
      rw [Bool.false_and] at q
      exact q H3 (e2.trans e3)⟩
theorem e_eqIV {i j : Int} (ha : Ev ta σ H (.int i)) (hb : Ev tb σ H (.int j)) : Ev (tOp rEq ta tb) σ H (.bl (decide (i = j))) := ev_is2 (ev_op ha hb (rv_eq rfl)) (by congr 1; rw [Bool.eq_iff_iff]; simp)
theorem e_neIV {i j : Int} (ha : Ev ta σ H (.int i)) (hb : Ev tb σ H (.int j)) : Ev (tOp rNe ta tb) σ H (.bl (!decide (i = j))) := ev_is2 (ev_op ha hb (rv_ne rfl)) (by congr 2; rw [Bool.eq_iff_iff]; simp)
theorem e_neB {b c : Bool} (ha : Ev ta σ H (.bl b)) (hb : Ev tb σ H (.bl c)) : Ev (tOp rNe ta tb) σ H (.bl (!decide (b = c))) := ev_is2 (ev_op ha hb (rv_ne rfl)) (by congr 2; rw [Bool.eq_iff_iff]; simp)
theorem e_geV {i j : Int} (ha : Ev ta σ H (.int i)) (hb : Ev tb σ H (.int j)) : Ev (tOp (rI0 fun i j => .bl (decide (j ≤ i))) ta tb) σ H (.bl (decide (j ≤ i))) := ev_op ha hb (rv_I0 (g := fun i j => .bl (decide (j ≤ i))))
end
end Sp

set_option Elab.async false
set_option linter.all false
set_option maxRecDepth 100000
set_option maxHeartbeats 4000000
namespace Sp
open PySem L2 Mth
open Evl (Ex)
theorem bd_tri {n : Nat} {i : Int} (h : Bd n i) : Bd (n + (n + 1)) (i * (i + 1) / 2) := by
  have h2 : Bd (n + (n + 1)) (i * (i + 1)) := by
    by_cases z : n = 0
    · subst z
      have : i = 0 := by unfold Bd at h; omega
      subst this
      unfold Bd; decide
    · refine Bd.mul h (Bd.add h ?_)
      unfold Bd
      exact Nat.one_lt_two_pow z
  exact h2.le (Int.natAbs_ediv_le_natAbs _ _)
theorem Sm.perm {N M : Int} {l m : List P2} (p : l.Perm m) (h : Sm N M l) : Sm N M m := ⟨fun b hb => h.pos b (p.mem_iff.mpr hb), by rw [← sm_perm _ p]; exact h.cnt, by rw [← sm_perm _ p]; exact h.tot⟩
theorem Sm.app {N M : Int} : ∀ {rest st : List P2}, Sm N M (st ++ rest) → Sm N M (rest.foldl Mth.push st)
  | [], st, h => by rw [List.append_nil] at h; exact h
  | c :: r, st, h => by
    refine Sm.app (rest := r) (st := Mth.push st c) ?_
    have h1 : Sm N M (c :: (st ++ r)) := h.perm (by
      rw [show st ++ c :: r = st ++ ([c] ++ r) from rfl]
      exact List.perm_middle)
    -- push on st alone; the rest beside
    have h2 : ∀ (st : List P2) (c : P2), Sm N M (c :: (st ++ r)) → Sm N M (Mth.push st c ++ r) := by
      intro st
      induction st with
      | nil => intro c h; exact h
      | cons a t ih =>
        intro c h
        show Sm N M ((if bFirst c ≤ bEnd a then Mth.push t (Mth.bAdd a c) else c :: a :: t) ++ r)
        split
        · exact ih (Mth.bAdd a c) (Sm.bAdd (st := t ++ r) h)
        · exact h
    exact h2 st c h1
theorem groups_sm {hs : List P2} (h : Ok hs) : Sm (sm (·.2) hs) (sm (fun h => ((h.2 * h.1).natAbs : Int)) hs) (groups hs) := by
  have key : ∀ l : List P2, Ok l → Sm (sm (·.2) l) (sm (fun h => ((h.2 * h.1).natAbs : Int)) l) ((l.filter fun h => decide (0 < h.2)).map fun h => (h.2, h.2 * h.1)) := by
    intro l
    induction l with
    | nil => intro _; exact ⟨(fun _ h => nomatch h), Int.le_refl _, Int.le_refl _⟩
    | cons x r ih =>
      intro hl
      obtain ⟨i1, i2, i3⟩ := ih fun y hy => hl y (List.mem_cons_of_mem _ hy)
      have hx := hl x List.mem_cons_self
      rw [sm_cons, sm_cons]
      by_cases c : 0 < x.2
      · rw [List.filter_cons_of_pos (by simpa using c), List.map_cons]
        refine ⟨fun b hb => ?_, ?_, ?_⟩
        · rcases List.mem_cons.mp hb with rfl | hb
          · exact c
          · exact i1 b hb
        · rw [sm_cons]; show x.2 + _ ≤ _; omega
        · rw [sm_cons]; show ((x.2 * x.1).natAbs : Int) + _ ≤ _; omega
      · rw [List.filter_cons_of_neg (by simpa using c)]
        exact ⟨i1, by omega, by omega⟩
  have := key (sortP hs) (h.perm (sortP_perm hs))
  rw [sm_perm _ (sortP_perm hs), sm_perm _ (sortP_perm hs)] at this
  exact this
theorem stack_sm {hs : List P2} (h : Ok hs) : Sm (sm (·.2) hs) (sm (fun h => ((h.2 * h.1).natAbs : Int)) hs) (stack hs) := by
  rw [← groups_stack]
  exact Sm.app (by rw [List.nil_append]; exact groups_sm h)
theorem Sz.small {N M : Int} {hs l : List P2} (sz : Sz hs) (h : Sm (sm (·.2) hs) (sm (fun h => ((h.2 * h.1).natAbs : Int)) hs) l) {b : P2} (hb : b ∈ l) : 0 < b.1 ∧ Bd 400 b.1 ∧ Bd 800 b.2 := by
  obtain ⟨h1, h2, h3⟩ := h.mem hb
  exact ⟨h1, sz.cnt.le (by omega), sz.tot.le (by omega)⟩
theorem bFirst_bd {b : P2} (h1 : Bd 400 b.1) (h2 : Bd 800 b.2) : Bd 803 (bFirst b) := by
  have hs : Bd 801 (b.1 * (b.1 + 1) / 2) := (bd_tri h1).mono (by decide)
  have one1 : Bd 802 1 := Nat.one_lt_two_pow (by decide)
  refine Bd.add (n := 802) ?_ one1
  refine Bd.le (j := b.2 - b.1 * (b.1 + 1) / 2) ?_ (Int.natAbs_ediv_le_natAbs _ _)
  unfold Bd at *
  rw [show 802 = 801 + 1 from rfl, Nat.pow_succ]
  have : 2 ^ 800 ≤ 2 ^ 801 := Nat.pow_le_pow_right (by decide) (by decide)
  omega
theorem join1_mem {J : List P2} {p q : P2} (h : q ∈ join1 J p) : (q.1 = p.1 ∨ ∃ z ∈ J, q.1 = z.1) ∧ (q.2 = p.2 ∨ ∃ z ∈ J, q.2 = z.2) := by
  cases J with
  | nil =>
    rcases List.mem_singleton.mp h with rfl
    exact ⟨.inl rfl, .inl rfl⟩
  | cons a r =>
    rw [show join1 (a :: r) p = if a.2 + 1 = p.1 then (a.1, p.2) :: r else p :: a :: r from rfl] at h
    split at h
    · rcases List.mem_cons.mp h with rfl | h
      · exact ⟨.inr ⟨a, List.mem_cons_self, rfl⟩, .inl rfl⟩
      · exact ⟨.inr ⟨q, List.mem_cons_of_mem _ h, rfl⟩, .inr ⟨q, List.mem_cons_of_mem _ h, rfl⟩⟩
    · rcases List.mem_cons.mp h with rfl | h
      · exact ⟨.inl rfl, .inl rfl⟩
      · exact ⟨.inr ⟨q, h, rfl⟩, .inr ⟨q, h, rfl⟩⟩
theorem joins_mem : ∀ {ps J : List P2} {q : P2}, q ∈ ps.foldl join1 J → (∃ z, (z ∈ J ∨ z ∈ ps) ∧ q.1 = z.1) ∧ ∃ z, (z ∈ J ∨ z ∈ ps) ∧ q.2 = z.2
  | [], J, q, h => ⟨⟨q, .inl h, rfl⟩, ⟨q, .inl h, rfl⟩⟩
  | p :: r, J, q, h => by
    obtain ⟨⟨z1, m1, e1⟩, ⟨z2, m2, e2⟩⟩ := joins_mem (ps := r) (J := join1 J p) h
    refine ⟨?_, ?_⟩
    · rcases m1 with m1 | m1
      · rcases (join1_mem m1).1 with e | ⟨w, hw, e⟩
        · exact ⟨p, .inr List.mem_cons_self, e1.trans e⟩
        · exact ⟨w, .inl hw, e1.trans e⟩
      · exact ⟨z1, .inr (List.mem_cons_of_mem _ m1), e1⟩
    · rcases m2 with m2 | m2
      · rcases (join1_mem m2).2 with e | ⟨w, hw, e⟩
        · exact ⟨p, .inr List.mem_cons_self, e2.trans e⟩
        · exact ⟨w, .inl hw, e2.trans e⟩
      · exact ⟨z2, .inr (List.mem_cons_of_mem _ m2), e2⟩
theorem stretch_bd {hs : List P2} (sz : Sz hs) : ∀ p ∈ stretches hs, Bd 810 p.1 ∧ Bd 810 p.2 := by
  have key : ∀ p ∈ (stack hs).reverse.flatMap bParts, Bd 810 p.1 ∧ Bd 810 p.2 := by
    intro p hp
    obtain ⟨b, hb, hp⟩ := List.mem_flatMap.mp hp
    obtain ⟨h0, h1, h2⟩ := sz.small (N := 0) (M := 0) (stack_sm sz.ok) (List.mem_reverse.mp hb)
    have hf := bFirst_bd h1 h2
    obtain ⟨i1, i2, i3⟩ := parts_in h0 hp
    have he : bEnd b ≤ bFirst b + b.1 := by
      obtain ⟨g1, g2⟩ := bGap_bounds h0
      unfold bEnd
      unfold bLast at *
      split <;> omega
    have p1 : 2 ^ 400 ≤ 2 ^ 803 := Nat.pow_le_pow_right (by decide) (by decide)
    have p2 : 2 ^ 803 + 2 ^ 803 ≤ 2 ^ 810 := by
      have : 2 ^ 804 ≤ 2 ^ 810 := Nat.pow_le_pow_right (by decide) (by decide)
      rw [show 804 = 803 + 1 from rfl, Nat.pow_succ] at this
      omega
    unfold Bd at *
    omega
  intro p hp
  have hp : p ∈ joins ((stack hs).reverse.flatMap bParts) := List.mem_reverse.mp hp
  obtain ⟨⟨z1, m1, e1⟩, ⟨z2, m2, e2⟩⟩ := joins_mem hp
  rw [e1, e2]
  refine ⟨?_, ?_⟩
  · rcases m1 with m | m
    · exact nomatch m
    · exact (key z1 m).1
  · rcases m2 with m | m
    · exact nomatch m
    · exact (key z2 m).2
end Sp
namespace Sp
open PySem L2 Mth Evl
section
variable {K : PySem.W.Frag} {σ : L2.St} {H H' : Hp} {ta tb te to ti : TE} {x y v : V} {p q : P2} {ps qs : List P2} {a l : Addr} {D : Ends} {tz : TS}
theorem pr_erase {α β : Type} {F : α → β → Prop} {xs : List α} {ys : List β} (n : Nat) (h : Paired F xs ys) : Paired F (xs.eraseIdx n) (ys.eraseIdx n) := by
  induction h generalizing n with
  | nil => exact .nil
  | cons r t ih =>
    cases n with
    | zero => exact t
    | succ n => exact .cons r (ih n)
/-- l[i] = pair -/
theorem q_setP {j : Nat} (hl : PL H l ps) (h : NP te σ H q) (ho : Ev to σ H (.ref l)) (hi : Ev ti σ H (.int (j : Int))) (hj : j < ps.length)
    (k : ∀ H1 vs vs', Ex H H1 → H1 l = some (.lst vs) → Tps (upd H1 l (.lst vs')) vs' (ps.set j q) → tz D σ (upd H1 l (.lst vs'))) : tSeq (tAsg te (gSub to ti rSetL)) tz D σ H :=
  h H (Ex.refl _) _ fun v H1 e1 tv => ho H1 e1 _ fun H2 e2 => hi H2 (e1.trans e2) _ fun H3 e3 => by
    obtain ⟨vs, h1, h2⟩ := hl.mono ((e1.trans e2).trans e3)
    refine ⟨l, vs, (j : Int), j, rfl, rfl, h1, ixN_nat (by rw [pr_len h2]; exact hj), ?_⟩
    exact k H3 vs (vs.set j v) ((e1.trans e2).trans e3) h1 (pr_set j (h2.upd h1) ((tv.mono (e2.trans e3)).upd h1))
/-- l.pop(i) -/
theorem q_popAt {j : Nat} (hl : PL H l ps) (ho : Ev to σ H (.ref l)) (hi : Ev ti σ H (.int (j : Int))) (hj : j < ps.length) (hz : ps.length ≤ 100000)
    (k : ∀ H1 vs vs', Ex H H1 → H1 l = some (.lst vs) → Tps (upd H1 l (.lst vs')) vs' (ps.eraseIdx j) → tz D σ (upd H1 l (.lst vs'))) : tSeq (tDrop (tBM K "list" rPopAt to (tCons ti tNil))) tz D σ H :=
  ho H (Ex.refl _) _ fun H1 e1 => by
    obtain ⟨vs, h1, h2⟩ := hl.mono e1
    refine ⟨.inl ⟨rfl, _, SqL.of h1⟩, hi H1 e1 _ fun H2 e2 => ?_⟩
    have h1' := e2 _ _ h1
    have h2' := h2.mono e2
    have hjv : j < vs.length := by rw [pr_len h2]; exact hj
    refine ⟨l, vs, (j : Int), j, vs[j]'hjv, rfl, rfl, h1', by omega, by omega, (ixN_seq (ixN_nat hjv)).1, List.getElem?_eq_getElem hjv, ?_⟩
    exact k H2 vs (vs.eraseIdx j) (e1.trans e2) h1' (pr_erase j (h2'.upd h1'))
/-- l.append(pair) -/
theorem q_appP (hl : PL H l ps) (ho : Ev to σ H (.ref l)) (h : NP te σ H q) (hz : ps.length < 100000)
    (k : ∀ H1 vs vs', Ex H H1 → H1 l = some (.lst vs) → Tps (upd H1 l (.lst vs')) vs' (ps ++ [q]) → tz D σ (upd H1 l (.lst vs'))) : tSeq (tDrop (tBM K "list" rAppend to (tCons te tNil))) tz D σ H :=
  ho H (Ex.refl _) _ fun H1 e1 => by
    obtain ⟨vs, h1, h2⟩ := hl.mono e1
    refine ⟨.inl ⟨rfl, _, SqL.of h1⟩, h H1 e1 _ fun v H2 e2 tv => ?_⟩
    have h1' := e2 _ _ h1
    exact ⟨l, vs, v, rfl, rfl, h1', by rw [pr_len h2]; exact sz_lt hz, k H2 vs (vs ++ [v]) (e1.trans e2) h1' (pr_app ((h2.mono e2).upd h1') (.cons (tv.upd h1') .nil))⟩
theorem s_appP (hl : PL H l ps) (ho : Ev to σ H (.ref l)) (h : NP te σ H q) (hz : ps.length < 100000)
    (k : ∀ H1 vs vs', Ex H H1 → H1 l = some (.lst vs) → Tps (upd H1 l (.lst vs')) vs' (ps ++ [q]) → D.nx σ (upd H1 l (.lst vs'))) : tDrop (tBM K "list" rAppend to (tCons te tNil)) D σ H :=
  q_appP (tz := fun D σ H => D.nx σ H) (D := D) hl ho h hz k
/-- l.pop(), thrown away -/
theorem q_popL {to : TE} (hl : PL H l (ps ++ [q])) (ho : Ev to σ H (.ref l)) (k : ∀ H1 vs vs', Ex H H1 → H1 l = some (.lst vs) → Tps (upd H1 l (.lst vs')) vs' ps → tz D σ (upd H1 l (.lst vs'))) : tSeq (tDrop (tBM0 K "list" rPop to)) tz D σ H :=
  ho H (Ex.refl _) _ fun H1 e1 => by
    obtain ⟨vs, h1, h2⟩ := hl.mono e1
    obtain ⟨us, x, rfl, r1, r2⟩ := pr_last h2
    refine ⟨.inl ⟨rfl, _, SqL.of h1⟩, l, _, x, rfl, rfl, h1, last_at _ _, ?_⟩
    rw [List.dropLast_concat]
    exact k H1 _ us e1 h1 (Tps.upd h1 r1)
theorem et_isN {b : Bool} (ha : Ev ta σ H x) (e : decide (x = .non) = b) : EvT (tTest (tOp (fun x y H Q => y = .non ∧ Q (.bl (decide (x = .non))) H) ta (tC .non))) σ H b := et_test (ev_is2 (ev_op (y := .non) ha ev_c fun H1 _ Q q => ⟨rfl, q H1 (Ex.refl _)⟩) (by rw [e]))
/-- for x in a list of pairs that is made there -/
theorem q_forS {tl : TE} {g : TG} {tu : TS} (h : SL tl σ H ps) (Pv : Addr → List V → Nat → L2.St → Hp → Prop) (h0 : ∀ p vs H1, Ex H H1 → H1 p = some (.lst vs) → Tps H1 vs ps → Pv p vs 0 σ H1) (hl : ∀ p vs i σ' H', i ≤ vs.length → Pv p vs i σ' H' → SqL K H' p vs)
    (hs : ∀ p vs i x σ' H', vs[i]? = some x → Pv p vs i σ' H' → g x σ' H' fun σ2 H2 => tu { D with nx := Pv p vs (i + 1), ct := Pv p vs (i + 1), bk := tz D } σ2 H2) (hd : ∀ p vs σ' H', vs.length = ps.length → Pv p vs vs.length σ' H' → tz D σ' H') : tSeq (tFor (iList K tl) g tu) tz D σ H :=
  h H (Ex.refl H) _ fun p H1 e hp => by
    obtain ⟨vs, h1, h2⟩ := hp
    exact ⟨p, rfl, ⟨vs, sq_of h1⟩, for_list (Pv p vs) (h0 p vs H1 e h1 h2) (hl p vs) (hs p vs) (hd p vs · · (pr_len h2))⟩
theorem s_forS {tl : TE} {g : TG} {tu : TS} (h : SL tl σ H ps) (Pv : Addr → List V → Nat → L2.St → Hp → Prop) (h0 : ∀ p vs H1, Ex H H1 → H1 p = some (.lst vs) → Tps H1 vs ps → Pv p vs 0 σ H1) (hl : ∀ p vs i σ' H', i ≤ vs.length → Pv p vs i σ' H' → SqL K H' p vs)
    (hs : ∀ p vs i x σ' H', vs[i]? = some x → Pv p vs i σ' H' → g x σ' H' fun σ2 H2 => tu { D with nx := Pv p vs (i + 1), ct := Pv p vs (i + 1), bk := D.nx } σ2 H2) (hd : ∀ p vs σ' H', vs.length = ps.length → Pv p vs vs.length σ' H' → D.nx σ' H') : tFor (iList K tl) g tu D σ H :=
  q_forS (tz := fun D σ H => D.nx σ H) h Pv h0 hl hs hd
/-- .. a new list -/
theorem s_forN {tl : TE} {g : TG} {tu : TS} (h : NL tl σ H ps) (Pv : Addr → List V → Nat → L2.St → Hp → Prop) (h0 : ∀ p vs H1, H p = none → Ex H H1 → H1 p = some (.lst vs) → Tps H1 vs ps → Pv p vs 0 σ H1) (hl : ∀ p vs i σ' H', i ≤ vs.length → Pv p vs i σ' H' → SqL K H' p vs)
    (hs : ∀ p vs i x σ' H', vs[i]? = some x → Pv p vs i σ' H' → g x σ' H' fun σ2 H2 => tu { D with nx := Pv p vs (i + 1), ct := Pv p vs (i + 1), bk := D.nx } σ2 H2) (hd : ∀ p vs σ' H', vs.length = ps.length → Pv p vs vs.length σ' H' → D.nx σ' H') : tFor (iList K tl) g tu D σ H :=
  h H (Ex.refl H) _ fun p H1 np e hp => by
    obtain ⟨vs, h1, h2⟩ := hp
    exact ⟨p, rfl, ⟨vs, sq_of h1⟩, for_list (Pv p vs) (h0 p vs H1 np e h1 h2) (hl p vs) (hs p vs) (hd p vs · · (pr_len h2))⟩
end
end Sp

set_option Elab.async false
set_option linter.all false
set_option maxRecDepth 100000
set_option maxHeartbeats 1000000
namespace Sp
open PySem L2
/-! ### a comprehension whose step may raise -/
/-- the block's context, with a way out -/
abbrev outX (X : Cx) (s : Shared) (H : Hp) (scope : Scope) (ce : Env) (fp : List Addr) (out : Value → Shared → Prop) : Cx := { X.blk s H scope ce fp with xe := out }
section
variable {X : Cx} {pins : List (Addr × Obj)} {σ : L2.St} {H : Hp} {s : Shared}
theorem inv_to {out : Value → Shared → Prop} (I : L2.Inv X pins σ H s) : L2.Inv { X with xe := out } pins σ H s :=
  ⟨⟨I.ok.mod, I.ok.kind, I.ok.glob, I.ok.blt, I.ok.above, I.ok.inj, I.ok.has, I.ok.cab, I.ok.hd, I.ok.frames, I.ok.stk, I.ok.exf, I.ok.bs, I.ok.bsz, I.ok.noex, I.ok.exfs, I.ok.funs, I.ok.frf⟩, I.os, I.bare, I.base, I.loc, I.cell, I.free, I.freeC, I.pin, I.hok, I.len⟩
theorem inv_from {out : Value → Shared → Prop} (I : L2.Inv { X with xe := out } pins σ H s) : L2.Inv X pins σ H s :=
  ⟨⟨I.ok.mod, I.ok.kind, I.ok.glob, I.ok.blt, I.ok.above, I.ok.inj, I.ok.has, I.ok.cab, I.ok.hd, I.ok.frames, I.ok.stk, I.ok.exf, I.ok.bs, I.ok.bsz, I.ok.noex, I.ok.exfs, I.ok.funs, I.ok.frf⟩, I.os, I.bare, I.base, I.loc, I.cell, I.free, I.freeC, I.pin, I.hok, I.len⟩
end
theorem note_as {env env' : Env} (h : env'.frame = env.frame) (e : Value) : noteFrame e env' = noteFrame e env := by
  unfold noteFrame frameOf
  rw [h]
/-- all but C kept: the frames that run stand as they stood -/
theorem frames_but {h h' B B' : Heap} {C : Addr} (sb : ∀ b, b ≠ C → h'.get? b = h.get? b) (bn : ∀ b, B.get? b = none → B'.get? b = none) : ∀ {l : List Env}, C ∉ frs l → h.FunFrames B l → h'.FunFrames B' l
  | [], _, _ => trivial
  | env :: r, hc, ff => by
    obtain ⟨k, ⟨L, o, hf, hn, ho, hd⟩, hr⟩ := ff
    have e : frs (env :: r) = L :: frs r := by unfold frs; rw [List.filterMap_cons, hf]
    rw [e] at hc
    exact ⟨k, ⟨L, o, hf, bn L hn, (sb L fun z => hc (by rw [z]; exact List.mem_cons_self)).trans ho, hd⟩, frames_but sb bn (fun z => hc (List.mem_cons_of_mem _ z)) hr⟩
/-- what is raised in the block, once the block's names are let go, is in the def's own air -/
theorem block_flies {X : Cx} {pins : List (Addr × Obj)} {σ : L2.St} {H3 : Hp} {s3 : Shared} {scope : Scope} {ce : Env} {fp : List Addr} {out : Value → Shared → Prop} {E : XK} (hs : X.stack = X.env :: X.outer) (hf : X.env.frame = some X.env.locals) (tk : L2N.Takes X fun cls d _ H => E cls d H)
    (I3 : L2.Inv X pins σ H3 s3) (f3 : ∀ b ∈ fp, FpOk X pins H3 b) (cL : ce.locals = s3.heap.objs.size) (cF : ce.frame = X.env.frame) {p5 : List (Addr × Obj)} {σ5 : L2.St} {H5 : Hp} {s5 : Shared} (I5 : L2.Inv (outX X s3 H3 scope ce fp out) p5 σ5 H5 s5)
    {e : Value} {s6 : Shared} (c : L2N.CX X.prog X.w X.stack H5 s5 E e s6) : notedBy (model X.prog X.w) X.A ce (CompFails (model X.prog X.w) X.A X.xe ce) e s6 := by
  obtain ⟨a0, B0, H0, cls0, d0, ea, fl0, _⟩ := id c
  obtain ⟨a, B, sI, pI, σI, H', cls, d, ea', I, nb, up, sky, na, os, ag, w⟩ := L2N.XE.of_call (W := fun cls d _ H => E cls d H) I5 (fun _ _ _ h => h) c
  have e2 : a0 = a := by rw [ea] at ea'; injection ea'
  subst e2
  subst ea
  have fl : HandSPX.FlyingZ B X.stack a0 (L2N.Zn cls d) s6.heap := by
    obtain ⟨_, _, _, oe, vs, T, oT, ts, he, _, hd, h1, _, _, hT, hdT, h3⟩ := fl0
    rcases sky with ⟨_, _, _, oe2, vs2, he2, _, hd2, h12⟩ | fl | ⟨_, _, _, oe2, vs2, T2, oT2, ts2, he2, _, hd2, h12, _, _, hT2, hdT2, h32⟩
    · rw [he] at he2; cases he2
      rw [hd] at hd2; cases hd2
      rw [h1] at h12; cases h12
    · exact fl
    · rw [he] at he2; cases he2
      rw [hd] at hd2; cases hd2
      rw [h1] at h12; cases h12
      rw [hT] at hT2; cases hT2
      rw [hdT] at hdT2; cases hdT2
      rw [h3] at h32; cases h32
  rw [hs] at fl
  have hfr : X.A.frames = some (X.env :: X.outer) := by rw [I3.ok.frames, hs]
  have ltC : ∀ b o, s3.heap.get? b = some o → b ≠ ce.locals := fun b o q => by rw [cL]; exact Nat.ne_of_lt (Heap.lt_size q)
  have nfC : ce.locals ∉ frs (X.env :: X.outer) := fun hm => by
    rw [← hs] at hm
    obtain ⟨_, o, ho, _⟩ := I3.stack.mem hm
    exact ltC _ o ho rfl
  unfold notedBy
  rw [note_as cF]
  refine PXN.looks_onZ L2N.Zn.steady hfr hf fl fun h1 hh up1 => ?_
  obtain ⟨m, ⟨oC, es, ep, hC, hdC, rC⟩, _⟩ := I.loc
  have hC : sI.heap.get? ce.locals = some oC := hC
  have nfd : ∀ vs, oC.data ≠ .fields vs := fun vs z => by rw [hdC] at z; cases z
  obtain ⟨sl1, hC1⟩ := up _ _ hC nfd
  obtain ⟨sl2, hC2⟩ := up1 _ _ hC1 nfd
  refine ⟨m, ⟨_, es, ep, hC2, hdC, rC⟩, fun h2 m2 _ sb => ?_⟩
  obtain ⟨G, g1, g2⟩ := restrict sI.heap fun b => decide (b ≠ ce.locals)
  obtain ⟨B2, b1, b2⟩ := restrict B fun b => decide (b ≠ ce.locals)
  have gne : ∀ b o, G.get? b = some o → b ≠ ce.locals ∧ sI.heap.get? b = some o := fun b o q => by
    by_cases hb : b = ce.locals
    · rw [g2 b (decide_eq_false fun z => z hb)] at q; cases q
    · rw [g1 b (decide_eq_true hb)] at q; exact ⟨hb, q⟩
  have bne : ∀ b o, B2.get? b = some o → b ≠ ce.locals ∧ B.get? b = some o := fun b o q => by
    by_cases hb : b = ce.locals
    · rw [b2 b (decide_eq_false fun z => z hb)] at q; cases q
    · rw [b1 b (decide_eq_true hb)] at q; exact ⟨hb, q⟩
  have bnn : ∀ b, B.get? b = none → B2.get? b = none := fun b q => by
    cases r : B2.get? b with
    | none => rfl
    | some o => rw [(bne b o r).2] at q; cases q
  obtain ⟨k1, k2, k3, oe, vs, T, oT, ts, he, hz, hd, hh1, hnT, hTe, hT, hdT, hh3⟩ := hh
  have aC : a0 ≠ ce.locals := fun z => by
    rw [z, hC2] at he; cases he
    exact nfd _ hd
  have tC : T ≠ ce.locals := fun z => by
    rw [z, hC2] at hT; cases hT
    exact nfd _ hdT
  have held : HandSPX.HeldZ B2 (X.env :: X.outer) a0 (L2N.Zn cls d) X.env.locals h2 :=
    ⟨fun b o q => (sb.2 b (bne b o q).1).trans (k1 b o (bne b o q).2), bnn _ k2, frames_but sb.2 bnn nfC k3, oe, vs, T, oT, ts, (sb.2 _ aC).trans he, hz, hd, hh1, bnn _ hnT, hTe, (sb.2 _ tC).trans hT, hdT, hh3⟩
  -- the def's own state, the block's names gone
  have u := I.base
  have hC' : H' ce.locals = none := I.free
  have J : L2.Inv X pins σ H' { sI with heap := G } := by
    refine I3.call' (ch := fp) (s' := { sI with heap := G }) I.os ⟨fun b o q n hb hx => ?_, fun b o q n hb hx => ?_, fun b o q n hx => u.free b o q n hx, fun b o q hx => ?_, u.tups, u.frzs, u.tbls⟩ (fun b o q => ?_) I.bare fun b hb => ⟨(f3 b hb).2.2.2.1, (f3 b hb).2.1, (f3 b hb).2.2.2.2.1, (f3 b hb).2.2.2.2.2⟩
    · exact (g1 b (decide_eq_true (ltC b o q))).trans (u.keep b o q n hb hx)
    · obtain ⟨sl, r⟩ := u.slot b o q n hb hx
      exact ⟨sl, (g1 b (decide_eq_true (ltC b o q))).trans r⟩
    · obtain ⟨o', r⟩ := u.there b o q hx
      exact ⟨o', (g1 b (decide_eq_true (ltC b o q))).trans r⟩
    · refine (I.hok b o q).stay (fun x y hx r => (g1 x (decide_eq_true fun z => ?_)).trans r) (fun _ r => r) fun _ _ r => r
      rcases hx with hx | hx
      · rw [hx] at z; rw [z, hC'] at q; cases q
      · rw [z, hC'] at hx; cases hx
  unfold PySem.passOn
  refine wpAny_bind (wpAny_field ((sb.2 _ aC).trans he) hd hh1 ?_)
  rw [if_neg (show ¬ ((Value.ref T == Value.none) = true) from by simp)]
  have fin : wpAny (model X.prog X.w) X.A (setFlight (.ref a0) ce.frame) (fun _ s4 => wpAny (model X.prog X.w) X.A (throw (.ref a0) : Sem Value) (fun _ _ => False) X.xe s4) X.xe { s6 with heap := h2 } := by
    rw [cF, hf]
    refine HandSPX.setFlight_onZ held fun h4 hh4 up4 => wpAny_throw (tk _ _ ?_)
    refine ⟨a0, B2, { sI with heap := G }, pins, σ, H', cls, d, rfl, J, fun b o q hb => ?_, fun b o q n => ?_, .inr (.inr (by rw [hs]; exact hh4)), na, os, ag, w⟩
    · exact (b1 b (decide_eq_true (gne b o q).1)).trans (nb b o (gne b o q).2 hb)
    · obtain ⟨l1, r1⟩ := up b o (gne b o q).2 n
      obtain ⟨l2, r2⟩ := up1 b _ r1 n
      obtain ⟨l3, r3⟩ := up4 b _ ((sb.2 b (gne b o q).1).trans r2) n
      exact ⟨l3, r3⟩
  first
    | exact wpAny_bind (wpAny_pure (wpAny_bind fin))
    | exact wpAny_bind fin
section
variable {X : Cx}
/-- [elt for target in iter], whose step may raise what the def itself may let out -/
theorem pe_lcX {elt tg iter : Expr} {scope : Scope} {own : List (Str × Nat)} {pos : Pos} {wi : TI} {g : TG} {te : TE} {E : XK} (hc : X.calm = true) (hN : X.N.Nodup) (hst : X.stack = X.env :: X.outer) (hfl : X.env.frame = some X.env.locals) (tk : L2N.Takes X fun cls d _ H => E cls d H)
    (hi : PI X tg iter wi) (ok : BlkOk X.N X.env.scope scope own) (hg : ∀ (s : Shared) (H : Hp) (C : Addr) (cl : List (Str × Addr)) (fp : List Addr), PG (X.blk s H scope (compEnvC scope cl C X.env) fp) tg g)
    (he : ∀ (s : Shared) (H : Hp) (C : Addr) (cl : List (Str × Addr)) (fp : List Addr) (out : Value → Shared → Prop), (∀ σ, PassesAt (L2N.CX X.prog X.w) (outX X s H scope (compEnvC scope cl C X.env) fp out) σ E) → PE (outX X s H scope (compEnvC scope cl C X.env) fp out) elt te)
    (hsi : ∀ x, foldedSetIterable iter X.env x = pure x := by intro _; rfl) : PE X (.ListComp elt [⟨tg, iter, [], 0⟩] scope pos) (tLc wi g tYes te (own.map (·.2))) := by
  refine ⟨fun pins s σ H Q I h => ?_⟩
  have caught : ∀ y ∈ scope.names, y.2 = .free → ∃ c, X.env.cells.lookup y.1 = some c := fun y hy z => (ok.free y hy z).elim (fun k => I.ok.has _ (.inl k)) fun k => I.ok.has _ (.inr k)
  rw [eval_ListComp]
  refine comprehension_at (use := none) rfl hsi (closure_ok caught) ok.kind (fun y hy z => by rw [ok.uniq y hy, z]) (thn (hi.run pins s σ H _ I h) fun _ s1 w1 => thn w1 fun _ s2 w2 => ?_)
  obtain ⟨it, fp, tn, J, H2, rfl, I2, T, at2, f2, q⟩ := w2
  refine wpAny_newObj_type (newEnv_comp ?_) (by show 0 ≤ sizeLine; decide)
  generalize hD : s2.heap.objs.size = D
  have freeD : H2 D = none := I2.hok.fresh (Nat.le_of_eq hD)
  obtain ⟨W, ⟨m0, w0⟩, turn⟩ := q D freeD
  generalize hs3 : ({ s2 with heap := s2.heap.push { cls := .type "list", data := .seq ([] : List Value).toArray } } : Shared) = s3
  have kept3 : ∀ b o, s2.heap.get? b = some o → s3.heap.get? b = some o := fun b o z => by rw [← hs3]; exact Heap.get?_push_of_some _ z
  have size3 : s3.heap.objs.size = s2.heap.objs.size + 1 := by rw [← hs3]; exact Heap.size_push _ _
  have there2 : ∀ b ∈ fp, b < s2.heap.objs.size := fun b hb => (T.obj _ _ at2 b hb).elim fun _ z => Heap.lt_size z.1
  generalize hH3 : upd H2 D (.lst []) = H3 at w0
  have I3 : L2.Inv X pins σ H3 s3 := by
    rw [← hs3, ← hH3]
    refine I2.laid (t' := s2.toks) (fun b o z => Heap.get?_push_of_some _ z) (Nat.le_of_eq hD) ⟨Nat.zero_le _, [], 0, .nil, ?_⟩
    rw [← hD]
    exact Heap.get?_push_size _ rfl
  have f3 : ∀ b ∈ fp, FpOk X pins H3 b ∧ b < s3.heap.objs.size := fun b hb => by
    have lt := there2 b hb
    refine ⟨⟨?_, (f2 b hb).2⟩, by rw [size3]; exact Nat.lt_succ_of_lt lt⟩
    rw [← hH3, upd_ne (by rw [← hD]; exact Nat.ne_of_lt lt)]
    exact (f2 b hb).1
  have I4 := block_start I3 ok hN f3
  have pg := hg s3 H3 s3.heap.objs.size (cellsFrom (s3.heap.objs.size + 1) scope.names (cloFrom X.env.cells scope.names [])) fp
  have pe := he s3 H3 s3.heap.objs.size (cellsFrom (s3.heap.objs.size + 1) scope.names (cloFrom X.env.cells scope.names [])) fp
  show codeAny _ _ (.compStart (.ListComp elt [⟨tg, iter, [], 0⟩] scope pos) 0 (.ref it) (.ref D) (compEnvC scope (cellsFrom (s3.heap.objs.size + 1) scope.names (cloFrom X.env.cells scope.names [])) s3.heap.objs.size X.env))
    (compEnds (model X.prog X.w) X.A X.xe none (EP X pins σ Q) (.ref D) (compEnvC scope (cellsFrom (s3.heap.objs.size + 1) scope.names (cloFrom X.env.cells scope.names [])) s3.heap.objs.size X.env)) { s3 with heap := pushCells (s3.heap.push { cls := .type "dict", data := .dict #[] }) scope.names }
  have cF : (compEnvC scope (cellsFrom (s3.heap.objs.size + 1) scope.names (cloFrom X.env.cells scope.names [])) s3.heap.objs.size X.env).frame = X.env.frame := rfl
  have cL : (compEnvC scope (cellsFrom (s3.heap.objs.size + 1) scope.names (cloFrom X.env.cells scope.names [])) s3.heap.objs.size X.env).locals = s3.heap.objs.size := rfl
  generalize compEnvC scope (cellsFrom (s3.heap.objs.size + 1) scope.names (cloFrom X.env.cells scope.names [])) s3.heap.objs.size X.env = ce at I4 pg pe cF cL ⊢
  generalize hs4 : ({ s3 with heap := pushCells (s3.heap.push { cls := .type "dict", data := .dict #[] }) scope.names } : Shared) = s4 at I4 ⊢
  have at4 : tn 0 s4.heap := T.keep _ _ _ at2 fun b _ o z => by rw [← hs4]; exact pushCells_keeps _ _ _ _ (Heap.get?_push_of_some _ (kept3 b o z))
  -- what is raised in a turn
  have pe := pe (notedBy (model X.prog X.w) X.A ce (CompFails (model X.prog X.w) X.A X.xe ce)) fun _ _ _ _ _ _ I5 c => block_flies hst hfl tk I3 (fun b hb => (f3 b hb).1) cL cF I5 c
  have quiet : ∀ {σ' : L2.St} {H' : Hp} {s' : Shared}, L2.Inv (X.blk s3 H3 scope ce fp) [] σ' H' s' → (∀ b ∈ fp, H' b = none) → ∀ b ∈ fp, FpOk (X.blk s3 H3 scope ce fp) [] H' b := fun {σ' H' s'} K n b hb =>
    ⟨n b hb, (K.ok.exf b hb).1, K.ok.exfs b hb, .inl hb, (K.ok.exf b hb).2, fun p hp => nomatch (show p ∈ ([] : List (Addr × Obj)) ++ [] from hp)⟩
  have loop : codeAny (model X.prog X.w) X.A (.compLoop (.ListComp elt [⟨tg, iter, [], 0⟩] scope pos) 0 (.ref it) (.ref D) ce) (compEnds (model X.prog X.w) X.A X.xe none (EP X pins σ Q) (.ref D) ce) s4 := by
    refine compLoop_any (fun n s' => ∃ i H', L2.Inv (X.blk s3 H3 scope ce fp) [] (wipe σ (own.map (·.2))) H' s' ∧ tn i s'.heap ∧ (∀ b ∈ fp, H' b = none) ∧ W i n H') ?_ m0 ⟨0, H3, I4, at4, fun b hb => (f3 b hb).1.1, w0⟩
    rintro n s5 ⟨i, H5, I5, at5, n5, w5⟩
    rcases turn i n H5 w5 with ⟨stop, fine⟩ | ⟨go, Nx, next, step⟩
    · refine thnF (T.done (X.blk s3 H3 scope ce fp) rfl rfl rfl hc i [] s5 _ H5 (fun _ _ => False) I5 (quiet I5 n5) at5 stop) fun r s6 ⟨er, I6⟩ => ?_
      subst er
      have I7 : L2.Inv X pins σ H5 s6 := I3.call' (ch := fp) I6.os I6.base I6.hok I6.bare fun b hb => ⟨(f3 b hb).1.2.2.2.1, (f3 b hb).1.2.1, (f3 b hb).1.2.2.2.2.1, (f3 b hb).1.2.2.2.2.2⟩
      have freeC : H5 s3.heap.objs.size = none := by rw [← cL]; exact I6.free
      obtain ⟨m, hm, _⟩ := I6.loc
      refine ⟨m, hm, fun h' sb => ?_⟩
      rw [cL] at sb
      obtain ⟨c0, c1, c2, c3, c4, c5⟩ := I3.fpOk (Nat.le_refl _) freeC
      exact ⟨.ref D, H5, I7.turned (t' := s6.toks) (fun b o hb z => (sb.2 b hb).trans z) c0 c1 c3 c4 c5, rfl, fine⟩
    · refine thnF (T.item (X.blk s3 H3 scope ce fp) rfl rfl rfl hc i [] s5 _ H5 (fun _ _ => False) I5 (quiet I5 n5) at5 go) fun r s6 ⟨u, er, w6⟩ => ?_
      subst er
      refine thnF w6 fun _ s7 ⟨x, H7, I7, r7, y7, at7, n7⟩ => ?_
      refine thnF (pg.run _ s7 _ H7 x u _ (I7.pinned (quiet I7 n7) (T.obj _ _ at7)) r7 (step x H7 y7)) fun _ s8 ⟨σ8, H8, I8, same8, q8⟩ => ?_
      refine wpAny_tests_nil ?_
      rw [if_pos rfl]
      have q8 : te σ8 H8 fun y H4 => ∃ acc, H4 D = some (.lst acc) ∧ acc.length < sizeLine ∧ Nx (upd H4 D (.lst (acc ++ [y]))) := q8
      refine wpAny_mono (pe.run _ s8 σ8 H8 _ (inv_to I8) q8) (fun z s9 ⟨y, H9, I9, r9, acc, hD9, small, nx⟩ => ?_) fun _ _ z => z
      refine app_ok (X := X.blk s3 H3 scope ce fp) (inv_from I9) hD9 small r9 fun s10 I10 => ?_
      obtain ⟨m', less, w'⟩ := next _ nx
      have pinned : ∀ b ∈ fp, ∀ o, s7.heap.get? b = some o → s10.heap.get? b = some o ∧ (upd H9 D (.lst (acc ++ [y]))) b = none := fun b hb o z =>
        let k := I10.pin (b, o) (List.mem_append_right _ (List.mem_append_right _ (mem_pinsAt hb z)))
        ⟨k.1, k.2.1⟩
      refine ⟨m', less, i + 1, _, (I10.unpinned (pins := [])).weak (by rw [← same8, wipe_length]) (fun j v z => ?_), T.keep _ _ _ at7 fun b hb o z => (pinned b hb o z).1, fun b hb => ?_, w'⟩
      · rw [← same8] at z
        exact (wipe_some z).1
      · obtain ⟨o, z, _⟩ := T.obj _ _ at7 b hb
        exact (pinned b hb o z).2
  exact codeAny_compStart_list loop (T.self X.A 0 _ _ _ at4 loop)
end
end Sp

set_option Elab.async false
set_option linter.all false
set_option maxRecDepth 100000
set_option maxHeartbeats 2000000
namespace Sp
open PySem L2 L2H HotX PyProof.Rows
/-! ### any of a list of bools, while an exception is handled -/
section
variable {prog : Program} {w : World} {A : Around} {E : Value → Shared → Prop} {s : Shared}
/-- a list's iterator at its end: the StopIteration that it raises gets the handled exception for its context, nothing else changes -/
theorem over_hot {it l x1 : Addr} {i : Nat} {items : Array Value} {Q : Option Value → Shared → Prop} (hot : HotAt A x1 s.heap) (ne : x1 ≠ it) (hit : s.heap.IsListIter it l i) (hl : s.heap.IsList l items) (hx : items[i]? = none)
    (hQ : ∀ h', Heap.ExtBut it s.heap h' → Q none { s with heap := h' }) : wpAny (model prog w) A (pyNext (.ref it)) Q E s := by
  obtain ⟨g, g0, g1, g2⟩ := id hit
  obtain ⟨z, z0, _, zn, z2⟩ := hl
  obtain ⟨hh, o1, v1, h1, d1, c1⟩ := hot
  unfold pyNext
  refine wpAny_bind (wpAny_attempt (wpAny_callSpecial?_slot (name := Str.ofString "__next__") hit.typeIs slot_listiter_next (wpAny_call_entry slot_listiter_next hit.typeIs entry_listiter_next ?_ (args_listiter_next _))))
  show wpAny _ _ (field (.ref it) 0 >>= _) _ _ s
  refine wpAny_bind (wpAny_field g0 g2 (x := .ref l) rfl ?_)
  show wpAny _ _ (if (Value.ref l == Value.none) = true then _ else _) _ _ s
  rw [if_neg (fun y => nomatch (show (Value.ref l == Value.none) = true from y))]
  show wpAny _ _ (field (.ref it) 1 >>= _) _ _ s
  refine wpAny_bind (wpAny_field g0 g2 (x := .int i 0) rfl ?_)
  show wpAny _ _ (seqItems? (.ref l) >>= _) _ _ s
  refine wpAny_bind (wpAny_seqItems z0 z2 ?_)
  simp only [Int.toNat_natCast, hx]
  refine wpAny_bind (wpAny_rule (wpAny_bind (wpAny_setField g0 g2 (by simp) ?_)))
  show wpAny _ _ (newExc (.type "StopIteration") [] >>= _) _ _ _
  refine wpAny_bind ?_
  simp only [newExc, newTuple]
  refine wpAny_bind (wpAny_newObj_type ?_ (by size_fits))
  refine wpAny_bind (m := firstArgMember _ _) (wpAny_of_eq (a := Value.none) (by first | rfl | (simp only [firstArgMember]; rfl)) ?_)
  refine wpAny_newObj_type ?_ (by size_fits)
  refine raiseNew_hot ⟨hh, o1, v1, Heap.get?_push_of_some _ (Heap.get?_push_of_some _ ((Heap.get?_update_other s.heap _ (Ne.symm ne)).trans h1)), d1, c1⟩ ?_ (Heap.get?_push_size _ rfl) rfl (by first | (simp; done) | (simp; omega)) ?_
  · refine Nat.ne_of_lt (Heap.lt_size (Heap.get?_push_of_some _ ((Heap.get?_update_other s.heap _ (Ne.symm ne)).trans h1)))
  · refine wpAny_bind (wpAny_isInstance (T := "StopIteration") (b := true) ⟨_, Heap.get?_update_self _ (Heap.get?_push_size _ rfl) rfl, rfl⟩ isSubtype_stop ?_)
    refine wpAny_pure (hQ _ fun b o nb e => ?_)
    rw [Heap.get?_update_other _ _ (Nat.ne_of_gt (Heap.lt_size (Heap.get?_push_of_some _ ((Heap.get?_update_other s.heap _ (Ne.symm nb)).trans e))))]
    exact Heap.get?_push_of_some _ (Heap.get?_push_of_some _ ((Heap.get?_update_other s.heap _ (Ne.symm nb)).trans e))
/-- a list walked while x1 is handled -/
theorem walks_hot {x1 : Addr} {o1 : Obj} {v1 : Array Value} (hh : A.handled = some (.ref x1)) (d1 : o1.data = .fields v1) (c1 : v1[2]? = some .none) (I ax : Addr) (ne : ax ≠ I) (n1 : x1 ≠ I) (items : Array Value) :
    Walks prog w A I [I, ax, x1] [I] items.size (fun i v => items[i]? = some v) (fun i h => h.IsListIter I ax i ∧ h.IsList ax items ∧ h.get? x1 = some o1) where
  sub := fun b hb => by rw [List.mem_singleton.mp hb]; exact List.mem_cons_self
  frame := fun _ _ _ st k => ⟨st.1.at fun o e => k I (by simp) o e, st.2.1.at fun o e => k ax (by simp) o e, k x1 (by simp) o1 st.2.2⟩
  item := fun i s Q E hi st k => wpAny_pyNext_list_item st.1 st.2.1 (x := items[i]) (by simp [hi]) fun h' a sb =>
    k _ h' s.toks (by simp [hi]) ⟨a, st.2.1.extBut sb.extBut ne, (sb.2 x1 n1).trans st.2.2⟩ fun b o hb e => sb.extBut b o (fun z => hb (by simp [z])) e
  done := fun s Q E st k => over_hot ⟨hh, o1, v1, st.2.2, d1, c1⟩ n1 st.1 st.2.1 (by simp) fun h' eb => k h' s.toks fun b o hb e => eb b o (fun z => hb (by simp [z])) e
  self := fun _ _ _ _ st k => wpAny_pyIter_listiter st.1 k
end
theorem cr_anyH {X : Cx} (hc : HotC X) : CallR X (.builtin "any") (rAny X.K) := by
  intro pins s σ H vs us Q I r h
  obtain ⟨a, bs, rfl, hs, q⟩ := h
  obtain ⟨its, rv, hl, _⟩ := I.list hs
  obtain ⟨p, ⟨hh, v1, d1, c1⟩, hp⟩ := hc
  have e1 := (I.pin p (List.mem_append_left _ hp)).1
  rw [Vals.ref1 r]
  refine call_any_walk (iter_any hl.isList fun s2 es st ne => ?_)
  subst es
  have bools := rv.bls
  refine ⟨_, _, _, _, _, _, _, rfl, walks_hot (A := X.A.in1) hh d1 c1 _ a ne (Nat.ne_of_lt (Heap.lt_size e1)) its.toArray, ⟨st.1, st.2, Heap.get?_push_of_some _ e1⟩, truth_bools bools, fun h' tk hk => ?_⟩
  refine ⟨.bl _, H, I.kept fun b o eo => hk b o (fun hm => ?_) (Heap.get?_push_of_some _ eo), ?_, q⟩
  · rw [List.mem_singleton] at hm
    exact absurd (hm ▸ Heap.lt_size eo) (Nat.lt_irrefl _)
  · show Value.bool _ = Value.bool _
    rw [List.size_toArray, bools, List.length_map, L2.any_range]
/-- a def that may raise, where nothing is handled -/
theorem _root_.L2.Fun.okN {P : Program} {w : World} {K : PySem.W.Frag} {mg : Str → Option Value} {base : Heap} {x qual : Str} {st : Stmt} {f : Addr} {fd : FuncData} {N ps : List Str} {k : Nat} {sp : Sp} (F : Fun K x qual st f fd) (S : FnScope N ps (defScope st)) (len : ∀ vs H Q E, sp vs H Q E → vs.length = ps.length)
    (body : ∀ (cdv : Value) (A : Around) (outer : List Env) (s : Shared) (H : Hp) (vs : List V) (Q : VK) (E : XK), Room k (A.deeper (envOfC qual (defScope st) s.heap.objs.size f cdv)) → sp vs H Q E →
      ∃ t, PSs (cxOf (L2N.CX P w) P w K mg base N qual (defScope st) f cdv A outer s H E) (defBody st) t ∧ t { nx := fun _ H' => Q .non H', rt := Q } (start N vs) H) : FnOk P w K mg base (L2N.CX P w) (k + 1) f fd ps sp := by
  obtain ⟨_, _, _, _, _, _, cdv, _, _, rfl, lk, hcd⟩ := F.ex
  exact fn_of lk hcd S len fun A outer s H vs Q E hr q => body cdv A outer s H vs Q E hr q
end Sp

set_option Elab.async false
set_option linter.all false
set_option maxRecDepth 100000
set_option maxHeartbeats 1000000
namespace Sp
open PySem L2 Mth
open Evl (Ex)
def topS (i : Nat) : Stmt := PySem.Challenge.pw_spreadrow_k06_written.main.body.getD i (.Pass ⟨0, 0, 0, 0⟩)
abbrev sHeapErrorC : Stmt := topS 1
abbrev sBadHeapsC : Stmt := topS 2
abbrev sBadPlaceC : Stmt := topS 3
abbrev sBadTextC : Stmt := topS 4
abbrev sIsNumber : Stmt := topS 6
abbrev sIsHeap : Stmt := topS 7
abbrev sCheckHeaps : Stmt := topS 8
abbrev sWritten : Stmt := topS 12
abbrev sRead : Stmt := topS 13
abbrev sFits : Stmt := topS 14
abbrev sReadHeap : Stmt := topS 15
abbrev sReadPlace : Stmt := topS 16
abbrev sReadNumber : Stmt := topS 17
abbrev sLawCellAt : Stmt := topS 19
abbrev sLawDraw : Stmt := topS 20
abbrev sLawHeaps : Stmt := topS 21
abbrev sLawWhole : Stmt := topS 22
abbrev sLawOver : Stmt := topS 23
abbrev sLawStretches : Stmt := topS 24
abbrev sLawHas : Stmt := topS 25
abbrev sLawHad : Stmt := topS 26
abbrev sLawNumber : Stmt := topS 27
abbrev sLawIn : Stmt := topS 28
abbrev sLawRefused : Stmt := topS 29
abbrev sLawRight : Stmt := topS 30
abbrev sLawFew : Stmt := topS 31
abbrev sLaw : Stmt := topS 32

end Sp

set_option Elab.async false
set_option linter.all false
set_option maxRecDepth 100000
set_option maxHeartbeats 1000000
namespace Sp
open PySem L2 Mth
open Evl (Ex)
section
variable {P : Program} {w : World} {K : PySem.W.Frag} {mg : Str → Option Value} {base : Heap}
/-! is_number -/
def spIsNumber : Sp := fun vs H Q _ => ∃ i : Int, vs = [.int i] ∧ Q (.bl true) H
theorem scIsNumber : FnScope ["value"] ["value"] (defScope sIsNumber) := ⟨rfl, rfl, rfl, by decide +kernel, rfl, by decide +kernel, by decide +kernel⟩
theorem okIsNumber {f : Addr} {fd : FuncData} (F : Fun K "is_number" "is_number" sIsNumber f fd) (m1 : mg "isinstance" = none) (m2 : mg "int" = none) (m3 : mg "bool" = none) : FnOk P w K mg base CX0 1 f fd ["value"] spIsNumber := by
  refine F.ok scIsNumber (fun vs H Q E h => ?_) (fun cdv A outer s H vs Q E hr h => ?_)
  · obtain ⟨i, rfl, _⟩ := h
    rfl
  · obtain ⟨i, rfl, k⟩ := h
    refine ⟨_, pss_one (ps_ret (pe_and (pe_callB call_isi (by rfl) m1 (by decide +kernel) (pa_cons (pv 0) (pa_cons (pe_bltn (v := .ty "int") (by rfl) m2 (by decide +kernel) rfl) pa_nil)))
      (pe_one (pe_not (pe_callB call_isi (by rfl) m1 (by decide +kernel) (pa_cons (pv 0) (pa_cons (pe_bltn (v := .ty "bool") (by rfl) m3 (by decide +kernel) rfl) pa_nil))))))), ?_⟩
    refine ⟨_, rfl, .int i, .ty "int", _, _, true, rfl, .ty _, .base (.int i), kit_ty (by decide +kernel), true, rfl, ?_⟩
    refine ⟨_, rfl, .int i, .ty "bool", _, _, false, rfl, .ty _, .base (.int i), kit_ty (by decide +kernel), false, rfl, ?_⟩
    exact k
/-! is_heap -/
def spIsHeap : Sp := fun vs H Q _ => ∃ (v : V) (p : P2), vs = [v] ∧ Tp H v p ∧ 0 ≤ p.2 ∧ Q (.bl true) H
theorem scIsHeap : FnScope ["value"] ["value"] (defScope sIsHeap) := ⟨rfl, rfl, rfl, by decide +kernel, rfl, by decide +kernel, by decide +kernel⟩
theorem okIsHeap {f fN : Addr} {fd fdN : FuncData} (F : Fun K "is_heap" "is_heap" sIsHeap f fd) (C : Cl P w K mg base "is_number" 1 ["value"] spIsNumber fN fdN) (m1 : mg "isinstance" = none) (m2 : mg "tuple" = none) (m3 : mg "len" = none) : FnOk P w K mg base CX0 2 f fd ["value"] spIsHeap := by
  refine F.ok scIsHeap (fun vs H Q E h => ?_) (fun cdv A outer s H vs Q E hr h => ?_)
  · obtain ⟨v, p, rfl, _⟩ := h
    rfl
  · obtain ⟨v, p, rfl, ⟨t, rfl, ht⟩, h0, k⟩ := h
    refine ⟨_, pss_cons (ps_if (pw_or (pt_not (pt_val (pe_callB call_isi (by rfl) m1 (by decide +kernel) (pa_cons (pv 0) (pa_cons (pe_bltn (v := .ty "tuple") (by rfl) m2 (by decide +kernel) rfl) pa_nil)))))
        (pw_or1 (pt_cmpR op_ne (pe_callB call_len_seq (by rfl) m3 PySem.boot_len (pa_cons (pv 0) pa_nil)) pe_int (nomark _)))).pt (pss_one (ps_ret pe_bl)) pss_nil)
      (pss_one (ps_ret (pe_and (pe_call C.F hr (by rfl) C.g C.kp C.b .nil pass0 (pa_cons (pe_ix ix_tup (pv 0) pe_int (fun _ _ => rfl)) pa_nil))
        (pe_and (pe_call C.F hr (by rfl) C.g C.kp C.b .nil pass0 (pa_cons (pe_ix ix_tup (pv 0) pe_int (fun _ _ => rfl)) pa_nil))
          (pe_one (pe_cmpR op_ge (pe_ix ix_tup (pv 0) pe_int (fun _ _ => rfl)) pe_int (nomark _))))))), ?_⟩
    refine z_if (b := false) (a_or (a := false) (b := false) ?_ fun _ => ?_) (fun z => nomatch z) fun _ => ?_
    · exact fun Q q => ⟨_, rfl, .ref t, .ty "tuple", _, _, true, rfl, .ty _, .base (.tup ht), kit_ty (by decide +kernel), true, rfl, q⟩
    · exact fun Q q => ⟨_, rfl, t, _, rfl, .inr (SqT.of ht), rfl, _, rfl, q⟩
    · have h0' : Val (tOp (rIxT K) (tVar 0) (tC (.int 0))) [some (V.ref t)] H (.int p.1) := v_tup (val_var rfl) val_c ht (atI_nat (j := 0) rfl)
      have h1' : Val (tOp (rIxT K) (tVar 0) (tC (.int 1))) [some (V.ref t)] H (.int p.2) := v_tup (val_var rfl) val_c ht (atI_nat (j := 1) rfl)
      refine h0' _ ⟨_, rfl, true, rfl, ?_⟩
      refine h1' _ ⟨_, rfl, true, rfl, ?_⟩
      refine h1' _ ⟨_, _, rfl, rfl, ?_⟩
      show Q (.bl (decide (0 ≤ p.2))) H
      rw [decide_eq_true h0]
      exact k
/-! check_heaps -/
def spCheckHeaps : Sp := fun vs H Q _ => ∃ (a : Addr) (ps : List P2), vs = [.ref a] ∧ PL H a ps ∧ Ok ps ∧ Q .non H
theorem scCheckHeaps : FnScope ["heaps", "heap"] ["heaps"] (defScope sCheckHeaps) := ⟨rfl, rfl, rfl, by decide +kernel, rfl, by decide +kernel, by decide +kernel⟩
theorem okCheckHeaps {f fN : Addr} {fd fdN : FuncData} (F : Fun K "check_heaps" "check_heaps" sCheckHeaps f fd) (C : Cl P w K mg base "is_heap" 2 ["value"] spIsHeap fN fdN) (m1 : mg "isinstance" = none) (m2 : mg "list" = none) : FnOk P w K mg base CX0 3 f fd ["heaps"] spCheckHeaps := by
  refine F.ok scCheckHeaps (fun vs H Q E h => ?_) (fun cdv A outer s H vs Q E hr h => ?_)
  · obtain ⟨a, ps, rfl, _⟩ := h
    rfl
  · obtain ⟨a, ps, rfl, ⟨vs, ha, hv⟩, h0, k⟩ := h
    refine ⟨_, pss_cons (ps_if (pt_not (pt_val (pe_callB call_isi (by rfl) m1 (by decide +kernel) (pa_cons (pv 0) (pa_cons (pe_bltn (v := .ty "list") (by rfl) m2 (by decide +kernel) rfl) pa_nil))))) (pss_one ps_never) pss_nil)
      (pss_one (ps_for PassesOwn.never rfl (pi_list (pv 0)) (pg_name (i := 1) scCheckHeaps.nd rfl (Or.inl rfl))
        (pss_one (ps_if (pt_not (pt_val (pe_call C.F hr (by rfl) C.g C.kp C.b .nil pass0 (pa_cons (pv 1) pa_nil)))) (pss_one ps_never) pss_nil)))), ?_⟩
    refine z_if (b := false) (fun Q q => ⟨_, rfl, .ref a, .ty "list", _, _, true, rfl, .ty _, .base (.lst ha), kit_ty (by decide +kernel), true, rfl, q⟩) (fun z => nomatch z) fun _ => ?_
    refine ⟨_, rfl, a, rfl, ⟨_, SqL.of ha⟩, for_list (K := K) (a := a) (xs := vs) (fun i σ H' => H' = H ∧ ∃ o, σ = [some (.ref a), o]) ⟨rfl, _, rfl⟩ (fun i σ H' _ z => by rw [z.1]; exact SqL.of ha) ?_ ?_⟩
    · rintro i x σ H' hi ⟨rfl, o, rfl⟩
      obtain ⟨p, hp, ht⟩ := pr_get hv hi
      refine s_ifs (b := false) (fun Q q => ⟨_, rfl, x, p, rfl, ht, h0 p (List.mem_of_getElem? hp), true, rfl, q⟩) (fun z => nomatch z) fun _ => ?_
      exact ⟨rfl, _, rfl⟩
    · rintro σ H' ⟨rfl, o, rfl⟩
      exact k
end

end Sp

set_option Elab.async false
set_option linter.all false
set_option maxRecDepth 100000
set_option maxHeartbeats 1000000
namespace Sp
open PySem L2 Mth
open Evl (Ex)
/-- an own error over ValueError -/
structure XTxt (K : PySem.W.Frag) (mg : Str → Option Value) (nm : Str) (C : Addr) : Prop where
  g : mg nm = some (.ref C)
  x : PySem.W.excIn K C [.type "ValueError", .type "Exception", .type "BaseException", .type "object"] "ValueError.__new__" = true
  k : PySem.W.keepIn K (.ref C) = true
  b : PySem.W.subIn K (.ref C) (.type "BaseException") = some true
  t : PySem.W.typeIn K (.ref C) = some (.type "type")
/-- a def that may raise -/
structure Clx (P : Program) (w : World) (K : PySem.W.Frag) (mg : Str → Option Value) (base : Heap) (nm : Str) (k : Nat) (ps : List Str) (sp : Sp) (f : Addr) (fd : FuncData) : Prop where
  F : FnOk P w K mg base (L2N.CX P w) k f fd ps sp
  g : mg nm = some (.ref f)
  kp : PySem.W.keepIn K (.ref f) = true
  b : Binds K fd ps []

end Sp

set_option Elab.async false
set_option linter.all false
set_option maxRecDepth 100000
set_option maxHeartbeats 1000000
namespace Sp
open PySem L2 Mth
open Evl (Ex)
/-! ### texts -/
section
open Evl
variable {K : PySem.W.Frag} {σ : L2.St} {H H' : Hp} {ta tb te to : TE} {tA : TA} {w x y : Str} {v : V} {D : Ends} {tz : TS} {tlo thi : TO} {lo hi : Option Int}
theorem e_isascii (h : Ev to σ H (.str w)) : Ev (tM0 (fun x xs H Q => ∃ a, x = .str a ∧ xs = [] ∧ True ∧ Q (.bl (Txt.isascii a)) H) to) σ H (.bl (Txt.isascii w)) := fun H1 e Q q => h H1 e _ fun H2 e2 => ⟨⟨w, rfl⟩, w, rfl, rfl, trivial, q H2 e2⟩
theorem e_isdigit (h : Ev to σ H (.str w)) : Ev (tM0 (fun x xs H Q => ∃ a, x = .str a ∧ xs = [] ∧ True ∧ Q (.bl (Txt.isdigit a)) H) to) σ H (.bl (Txt.isdigit w)) := fun H1 e Q q => h H1 e _ fun H2 e2 => ⟨⟨w, rfl⟩, w, rfl, rfl, trivial, q H2 e2⟩
theorem e_sw (h : Ev to σ H (.str w)) (hb : Ev te σ H (.str x)) : Ev (tM1 (fun x xs H Q => ∃ a b, x = .str a ∧ xs = [.str b] ∧ Q (.bl (Txt.startswith a b)) H) to te) σ H (.bl (Txt.startswith w x)) := fun H1 e Q q =>
  h H1 e _ fun H2 e2 => ⟨⟨w, rfl⟩, hb H2 (e.trans e2) _ fun H3 e3 => ⟨w, x, rfl, rfl, q H3 (e2.trans e3)⟩⟩
theorem e_stripC (h : Ev to σ H (.str w)) (hb : Ev te σ H (.str x)) (hz : w.length ≤ 100000) : Ev (tM1 (fun x xs H Q => ∃ a b, x = .str a ∧ xs = [.str b] ∧ a.length ≤ sizeLine ∧ Q (.str (Txt.stripChars a b)) H) to te) σ H (.str (Txt.stripChars w x)) := fun H1 e Q q =>
  h H1 e _ fun H2 e2 => ⟨⟨w, rfl⟩, hb H2 (e.trans e2) _ fun H3 e3 => ⟨w, x, rfl, rfl, sz_of hz, q H3 (e2.trans e3)⟩⟩
theorem eu_part (h : Ev to σ H (.str w)) (hb : Ev te σ H (.str x)) (hx : (x.length == 0) = false) (hz : w.length ≤ 100000) : EvU (tM1 (fun x xs H Q => ∃ a b, x = .str a ∧ xs = [.str b] ∧ (b.length == 0) = false ∧ a.length ≤ sizeLine ∧
      ∀ p, H p = none → Q (.ref p) (upd H p (.tup [.str (Txt.partition a b).1, .str (Txt.partition a b).2.1, .str (Txt.partition a b).2.2]))) to te) σ H [.str (Txt.partition w x).1, .str (Txt.partition w x).2.1, .str (Txt.partition w x).2.2] := fun H1 e Q q =>
  h H1 e _ fun H2 e2 => ⟨⟨w, rfl⟩, hb H2 (e.trans e2) _ fun H3 e3 => ⟨w, x, rfl, rfl, hx, sz_of hz, fun p np => q p _ (fresh_back (e2.trans e3) np) ((e2.trans e3).trans (Ex.new np)) upd_same⟩⟩
theorem el_split (h : Ev to σ H (.str w)) (hb : Ev te σ H (.str x)) (hx : (x.length == 0) = false) (hz : w.length ≤ 90000) : EvL (tM1 (fun x xs H Q => ∃ a b, x = .str a ∧ xs = [.str b] ∧ (b.length == 0) = false ∧ a.length + 2 ≤ sizeLine ∧ rNewStrs (Txt.split a b) H Q) to te) σ H ((Txt.split w x).map V.str) := fun H1 e Q q =>
  h H1 e _ fun H2 e2 => ⟨⟨w, rfl⟩, hb H2 (e.trans e2) _ fun H3 e3 => ⟨w, x, rfl, rfl, hx, sz_of (by omega), fun p np => q p _ (fresh_back (e2.trans e3) np) ((e2.trans e3).trans (Ex.new np)) upd_same⟩⟩
theorem e_cutS (h : Ev te σ H (.str w)) (h1 : EvO tlo σ H lo) (h2 : EvO thi σ H hi) (hz : w.length ≤ 100000) : Ev (tSl rSlS te tlo thi) σ H (.str (cutS w lo hi)) := fun H1 e Q q =>
  h H1 e _ fun H2 e2 => h1 H2 (e.trans e2) _ fun H3 e3 => h2 H3 ((e.trans e2).trans e3) _ fun H4 e4 => ⟨w, rfl, sz_of hz, q H4 ((e2.trans e3).trans e4)⟩
theorem e_lenT (h : Ev te σ H (.str w)) (hz : w.length ≤ 100000) : Ev (tCB (fun xs H Q => ∃ z, xs = [.str z] ∧ z.length ≤ sizeLine ∧ Q (.int z.length) H) (tCons te tNil)) σ H (.int (w.length : Int)) := fun H1 e Q q =>
  h H1 e _ fun H2 e2 => ⟨w, rfl, sz_of hz, q H2 e2⟩
theorem e_intT {n : Int} (h : Ev te σ H (.str w)) (hn : PySem.intText? w = some n) (hz : w.length ≤ 640) : Ev (tCB (fun xs H Q => ∃ a n, xs = [.str a] ∧ PySem.intText? a = some n ∧ a.length ≤ 640 ∧ Q (.int n) H) (tCons te tNil)) σ H (.int n) := fun H1 e Q q =>
  h H1 e _ fun H2 e2 => ⟨w, n, rfl, hn, hz, q H2 e2⟩
theorem e_eqT (ha : Ev ta σ H (.str x)) (hb : Ev tb σ H (.str y)) : Ev (tOp rEq ta tb) σ H (.bl (decide (x = y))) := ev_is2 (ev_op ha hb (rv_eq rfl)) (by congr 1; rw [Bool.eq_iff_iff]; simp)
theorem e_neT (ha : Ev ta σ H (.str x)) (hb : Ev tb σ H (.str y)) : Ev (tOp rNe ta tb) σ H (.bl (!decide (x = y))) := ev_is2 (ev_op ha hb (rv_ne rfl)) (by congr 2; rw [Bool.eq_iff_iff]; simp)
/-- a value, or else what is raised -/
def EvX (te : TE) (σ : L2.St) (H : Hp) (o : Option V) (R : Hp → Prop) : Prop := ∀ H1, Ex H H1 → ∀ Q : VK, (∀ v, o = some v → ∀ H2, Ex H1 H2 → Q v H2) → (o = none → ∀ H2, Ex H1 H2 → R H2) → te σ H1 Q
theorem s_retE {o : Option V} {R : Hp → Prop} (h : EvX te σ H o R) (k : ∀ v, o = some v → ∀ H1, Ex H H1 → D.rt v H1) (kE : o = none → ∀ H1, Ex H H1 → R H1) : tRet te D σ H := h H (Ex.refl _) _ k kE
theorem q_asgE {o : Option V} {R : Hp → Prop} {i : Nat} (h : EvX te σ H o R) (k : ∀ v, o = some v → ∀ H1, Ex H H1 → tz D (σ.set i (some v)) H1) (kE : o = none → ∀ H1, Ex H H1 → R H1) : tSeq (tAsg te (gName i)) tz D σ H := h H (Ex.refl _) _ k kE
theorem q_asg3 {x y z : V} {i j k : Nat} (h : EvU te σ H [x, y, z]) (kk : ∀ H1, Ex H H1 → tz D (((σ.set i (some x)).set j (some y)).set k (some z)) H1) : tSeq (tAsg te (gTup K 3 (gCons (gName i) (gCons (gName j) (gCons (gName k) gNil))))) tz D σ H :=
  h H (Ex.refl _) _ fun p H1 _ e1 hp => ⟨p, _, rfl, SqT.of hp, rfl, _, _, rfl, _, _, rfl, _, _, rfl, rfl, kk H1 e1⟩
theorem passN {P : Program} {w : World} {X : Cx} : Passes (L2N.CX P w) X E0 := fun _ _ _ _ _ _ _ h => by
  obtain ⟨_, _, _, _, _, _, _, _, _, _, _, _, z⟩ := h
  exact z.elim
end
/-- what is read of a text as a number, or BadText -/
def spI (f : Str → Option Int) (CT : Addr) : Sp := fun vs H Q E => ∃ w, vs = [.str w] ∧ w.length ≤ 100000 ∧ (∀ n, f w = some n → ∀ H', Ex H H' → Q (.int n) H') ∧ (f w = none → ∀ H', Ex H H' → E (.ref CT) none H')
section
open Evl
variable {σ : L2.St} {H : Hp} {ta : TA} {f : Str → Option Int} {CT : Addr} {W : WX} {w : Str}
theorem ex_I (h : EvA ta σ H [.str w]) (hz : w.length ≤ 100000) : EvX (tCallS (spI f CT) (WE W) ta) σ H ((f w).map V.int) (fun H' => W (.ref CT) none σ H') := fun H1 e Q k kE =>
  h H1 e _ fun H2 e2 => ⟨w, rfl, hz, fun n hn H' e' => k _ (by rw [hn]; rfl) H' (e2.trans e'), fun hn H' e' => kE (by rw [hn]; rfl) H' (e2.trans e')⟩
end
section
variable {P : Program} {w : World} {K : PySem.W.Frag} {mg : Str → Option Value} {base : Heap}
abbrev nReadNumber : List Str := ["word"]
theorem scReadNumber : FnScope ["word"] ["word"] (defScope sReadNumber) := ⟨rfl, rfl, rfl, by decide +kernel, rfl, by decide +kernel, by decide +kernel⟩
open Evl in
theorem okRN {f CT : Addr} {fd : FuncData} (F : Fun K "read_number" "read_number" sReadNumber f fd) (m : Ms mg) (xT : XTxt K mg "BadText" CT) (gM : ∃ t, mg "MOST_FIGURES" = some (.int 60 t)) : FnOk P w K mg base (L2N.CX P w) 1 f fd ["word"] (spI numF CT) := by
  refine F.okN scReadNumber (fun vs H Q E h => ?_) (fun cdv A outer s H vs Q E hr h => ?_)
  · obtain ⟨t, rfl, _⟩ := h
    rfl
  · obtain ⟨t, rfl, hz, kQ, kE⟩ := h
    obtain ⟨tM, gM⟩ := gM
    have nd := scReadNumber.nd
    refine ⟨_, (pss_cons (ps_if (PW.pt (pw_or (pt_not (pt_val (pe_m0 PySem.F.slot_str_isascii PySem.F.type_str_isascii mt_isascii (pv 0)))) (pw_or1 (pt_not (pt_val (pe_m0 PySem.F.slot_str_isdigit PySem.F.type_str_isdigit mt_isdigit (pv 0)))))))
      (pss_one (L2N.ps_raise rfl (L2N.takes_of rfl rfl rfl rfl) (L2N.pmk_own PySem.F.excBase_ValueError xT.x xT.g xT.k (raises_own xT.b xT.t) rfl)))
      pss_nil)
    (pss_cons (ps_if (pt_cmpR op_gt (pe_callB call_len_str (by rfl) m.len_ PySem.boot_len (pa_cons (pv 0) pa_nil)) (pe_glob (v := .int 60) (by rfl) gM ⟨_, rfl⟩) (nomark _))
      (pss_one (L2N.ps_raise rfl (L2N.takes_of rfl rfl rfl rfl) (L2N.pmk_own PySem.F.excBase_ValueError xT.x xT.g xT.k (raises_own xT.b xT.t) rfl)))
      pss_nil)
    (pss_cons (ps_if (PW.pt (pw_and (pt_val (pe_m1 PySem.F.slot_str_startswith PySem.F.type_str_startswith mt_startswith (pv 0) pe_str)) (pw_and1 (pt_cmpR op_ne (pv 0) pe_str (nomark _)))))
      (pss_one (L2N.ps_raise rfl (L2N.takes_of rfl rfl rfl rfl) (L2N.pmk_own PySem.F.excBase_ValueError xT.x xT.g xT.k (raises_own xT.b xT.t) rfl)))
      pss_nil)
    (pss_one (ps_ret (pe_callTy call_int_str (by rfl) m.int_ (by decide +kernel) (pa_cons (pv 0) pa_nil))))))), ?_⟩
    have ok := okFig_of t
    refine q_when (b := !Txt.isascii t || !Txt.isdigit t) (et_or (et_not (et_B (e_isascii (ev_var rfl)))) fun _ => et_not (et_B (e_isdigit (ev_var rfl)))) (fun c H1 e1 => kE (numF_no ?_) H1 e1) fun c H1 e1 => ?_
    · rw [ok, ← Bool.not_not (Txt.isascii t && Txt.isdigit t), Bool.not_and, c]
      rfl
    · have a : (Txt.isascii t && Txt.isdigit t) = true := by rw [← Bool.not_not (Txt.isascii t && Txt.isdigit t), Bool.not_and, c]; rfl
      rw [a, Bool.true_and] at ok
      refine q_when (b := decide ((60 : Int) < (t.length : Int))) (et_test (ev_op (e_lenT (ev_var rfl) hz) ev_c (rv_I0 (g := fun i j => .bl (decide (j < i)))))) (fun c H2 e2 => kE (numF_no ?_) H2 (e1.trans e2)) fun c H2 e2 => ?_
      · have c := of_decide_eq_true c
        rw [ok, decide_eq_false (by omega)]
        rfl
      · have c := of_decide_eq_false c
        rw [decide_eq_true (by omega), Bool.true_and] at ok
        refine q_when (b := Txt.startswith t (Str.ofString "0") && !decide (t = Str.ofString "0")) (et_and (et_B (e_sw (ev_var rfl) ev_c)) fun _ => et_test (e_neT (ev_var rfl) ev_c)) (fun c H3 e3 => kE (numF_no ?_) H3 ((e1.trans e2).trans e3)) fun c H3 e3 => ?_
        · rw [ok, c]
          rfl
        · rw [c] at ok
          obtain ⟨i1, i2⟩ := int_of ok
          exact s_ret (e_intT (ev_var rfl) i1 (by omega)) fun H4 e4 => kQ _ (numF_yes ok) H4 (((e1.trans e2).trans e3).trans e4)
abbrev nReadPlace : List Str := ["word", "size"]
theorem scReadPlace : FnScope ["word", "size"] ["word"] (defScope sReadPlace) := ⟨rfl, rfl, rfl, by decide +kernel, rfl, by decide +kernel, by decide +kernel⟩
open Evl in
theorem okRP {f fN CT : Addr} {fd fdN : FuncData} (F : Fun K "read_place" "read_place" sReadPlace f fd) (cRN : Clx P w K mg base "read_number" 1 ["word"] (spI numF CT) fN fdN) (xT : XTxt K mg "BadText" CT) : FnOk P w K mg base (L2N.CX P w) 2 f fd ["word"] (spI placeF CT) := by
  refine F.okN scReadPlace (fun vs H Q E h => ?_) (fun cdv A outer s H vs Q E hr h => ?_)
  · obtain ⟨t, rfl, _⟩ := h
    rfl
  · obtain ⟨t, rfl, hz, kQ, kE⟩ := h
    have nd := scReadPlace.nd
    refine ⟨_, (pss_cons (ps_if (pt_not (pt_val (pe_m1 PySem.F.slot_str_startswith PySem.F.type_str_startswith mt_startswith (pv 0) pe_str)))
      (pss_one (ps_ret (pe_callS cRN.F (hr.mono (by decide)) (by rfl) cRN.g cRN.kp cRN.b (fun σ => L2N.passAt (L2N.takes_of rfl rfl rfl rfl) σ) (pa_cons (pv 0) pa_nil))))
      pss_nil)
    (pss_cons (ps_set (i := 1) nd rfl (by first | exact Or.inl rfl | exact Or.inr rfl) (pe_callS cRN.F (hr.mono (by decide)) (by rfl) cRN.g cRN.kp cRN.b (fun σ => L2N.passAt (L2N.takes_of rfl rfl rfl rfl) σ) (pa_cons (pe_slice sl_str (pv 0) (po_some pe_int) po_none) pa_nil)))
    (pss_cons (ps_if (pt_cmpR op_eq (pv 1) pe_int (nomark _))
      (pss_one (L2N.ps_raise rfl (L2N.takes_of rfl rfl rfl rfl) (L2N.pmk_own PySem.F.excBase_ValueError xT.x xT.g xT.k (raises_own xT.b xT.t) rfl)))
      pss_nil)
    (pss_one (ps_ret (pe_un un_neg (pv 1))))))), ?_⟩
    refine q_when (b := !Txt.startswith t (Str.ofString "-")) (et_not (et_B (e_sw (ev_var rfl) ev_c))) (fun c H1 e1 => ?_) fun c H1 e1 => ?_
    · have pl := place_plain (w := t) (by simpa using c)
      refine s_retE (ex_I (w := t) (ea_cons (ev_var rfl) ea_nil) hz) (fun v hv H2 e2 => ?_) fun hn H2 e2 => ?_
      · cases q : numF t with
        | none => rw [q] at hv; cases hv
        | some n =>
          rw [q] at hv
          injection hv with hv
          subst hv
          exact kQ n (pl.trans q) H2 (e1.trans e2)
      · cases q : numF t with
        | none => exact kE (pl.trans q) H2 (e1.trans e2)
        | some n => rw [q] at hn; cases hn
    · have pl := place_sign (w := t) (by simpa using c)
      have lz := cutS_length t (some 1) none
      refine q_asgE (ex_I (w := cutS t (some 1) none) (ea_cons (e_cutS (ev_var rfl) (eo_some ev_c) eo_none hz) ea_nil) (by omega)) (fun v hv H2 e2 => ?_) fun hn H2 e2 => ?_
      · cases q : numF (cutS t (some 1) none) with
        | none => rw [q] at hv; cases hv
        | some n =>
          rw [q] at hv pl
          injection hv with hv
          subst hv
          have pl : placeF t = if n = 0 then none else some (-n) := pl
          refine q_when (b := decide (n = 0)) (e_eqi (ev_var rfl) ev_c) (fun c H3 e3 => kE ?_ H3 ((e1.trans e2).trans e3)) fun c H3 e3 => ?_
          · rw [pl, if_pos (of_decide_eq_true c)]
          · rw [if_neg (of_decide_eq_false c)] at pl
            exact s_ret (e_neg (ev_var rfl)) fun H4 e4 => kQ _ pl H4 (((e1.trans e2).trans e3).trans e4)
      · cases q : numF (cutS t (some 1) none) with
        | none => rw [q] at pl; exact kE pl H2 (e1.trans e2)
        | some n => rw [q] at hn; cases hn
/-- one heap is read -/
def spWord (CT : Addr) : Sp := fun vs H Q E => ∃ w, vs = [.str w] ∧ w.length ≤ 100000 ∧ (∀ q, wordF w = some q → ∀ v H', Ex H H' → Tp H' v q → Q v H') ∧ (wordF w = none → ∀ H', Ex H H' → E (.ref CT) none H')
abbrev nReadHeap : List Str := ["word", "place", "_", "count"]
theorem scReadHeap : FnScope ["word", "place", "_", "count"] ["word"] (defScope sReadHeap) := ⟨rfl, rfl, rfl, by decide +kernel, rfl, by decide +kernel, by decide +kernel⟩
open Evl in
theorem okRH {f fP fN CT : Addr} {fd fdP fdN : FuncData} (F : Fun K "read_heap" "read_heap" sReadHeap f fd) (cRP : Clx P w K mg base "read_place" 2 ["word"] (spI placeF CT) fP fdP) (cRN : Clx P w K mg base "read_number" 1 ["word"] (spI numF CT) fN fdN) : FnOk P w K mg base (L2N.CX P w) 3 f fd ["word"] (spWord CT) := by
  refine F.okN scReadHeap (fun vs H Q E h => ?_) (fun cdv A outer s H vs Q E hr h => ?_)
  · obtain ⟨t, rfl, _⟩ := h
    rfl
  · obtain ⟨t, rfl, hz, kQ, kE⟩ := h
    have nd := scReadHeap.nd
    refine ⟨_, (pss_cons (ps_asg (pe_m1 PySem.F.slot_str_partition PySem.F.type_str_partition mt_partition (pv 0) pe_str) (pg_tup (by rfl) (pgs_cons (pg_name (i := 1) nd rfl (by first | exact Or.inl rfl | exact Or.inr rfl)) (pgs_cons (pg_name (i := 2) nd rfl (by first | exact Or.inl rfl | exact Or.inr rfl)) (pgs_cons (pg_name (i := 3) nd rfl (by first | exact Or.inl rfl | exact Or.inr rfl)) pgs_nil)))))
    (pss_one (ps_ret (pe_tup (pa_cons (pe_callS cRP.F (hr.mono (by decide)) (by rfl) cRP.g cRP.kp cRP.b (fun σ => L2N.passAt (L2N.takes_of rfl rfl rfl rfl) σ) (pa_cons (pv 1) pa_nil)) (pa_cons (pe_callS cRN.F (hr.mono (by decide)) (by rfl) cRN.g cRN.kp cRN.b (fun σ => L2N.passAt (L2N.takes_of rfl rfl rfl rfl) σ) (pa_cons (pv 3) pa_nil)) pa_nil)))))), ?_⟩
    obtain ⟨z1, z2⟩ := part_len t (Str.ofString ":")
    refine q_asg3 (eu_part (w := t) (x := Str.ofString ":") (ev_var rfl) ev_c (by decide +kernel) hz) fun H1 e1 => ?_
    refine ex_I (f := placeF) (CT := CT) (w := (Txt.partition t (Str.ofString ":")).1) (ea_cons (ev_var rfl) ea_nil) (by omega) H1 (Ex.refl _) _ (fun v hv H2 e2 => ?_) fun hn H2 e2 => ?_
    · cases q : placeF (Txt.partition t (Str.ofString ":")).1 with
      | none => rw [q] at hv; cases hv
      | some n =>
        rw [q] at hv
        injection hv with hv
        subst hv
        refine ex_I (f := numF) (CT := CT) (w := (Txt.partition t (Str.ofString ":")).2.2) (ea_cons (ev_var rfl) ea_nil) (by omega) H2 (Ex.refl _) _ (fun v hv H3 e3 => ?_) fun hn H3 e3 => ?_
        · cases q2 : numF (Txt.partition t (Str.ofString ":")).2.2 with
          | none => rw [q2] at hv; cases hv
          | some c =>
            rw [q2] at hv
            injection hv with hv
            subst hv
            exact ⟨(by show 2 ≤ sizeLine; decide), fun r nr => kQ (n, c) (word_some.mpr ⟨q, q2⟩) _ _ (((e1.trans e2).trans e3).trans (Ex.new nr)) ⟨r, rfl, upd_same⟩⟩
        · cases q2 : numF (Txt.partition t (Str.ofString ":")).2.2 with
          | none => exact kE (word_none2 q2) H3 ((e1.trans e2).trans e3)
          | some c => rw [q2] at hn; cases hn
    · cases q : placeF (Txt.partition t (Str.ofString ":")).1 with
      | none => exact kE (word_none1 q) H2 (e1.trans e2)
      | some n => rw [q] at hn; cases hn
end

end Sp

set_option Elab.async false
set_option linter.all false
set_option maxRecDepth 100000
set_option maxHeartbeats 1000000
namespace Sp
open PySem L2 Mth
open Evl (Ex)
/-! ### read -/
section
open Evl
variable {K : PySem.W.Frag} {σ : L2.St} {H : Hp} {te tl : TE} {Q : VK}
/-- the words of a text, one after the other, till one is none -/
theorem lc_words {i : Nat} {vs : List Nat} {ws : List Str} {R : Hp → Prop} (hw : ∀ x, wipe ((wipe σ vs).set i (some x)) vs = wipe σ vs) (hs : EvL tl σ H (ws.map V.str)) (hz : ws.length ≤ 50000)
    (he : ∀ w ∈ ws, ∀ H1, Ex H H1 → ∀ Q : VK, (∀ q v H2, wordF w = some q → Ex H1 H2 → Tp H2 v q → Q v H2) → (wordF w = none → ∀ H2, Ex H1 H2 → R H2) → te ((wipe σ vs).set i (some (.str w))) H1 Q)
    (k : ∀ ps p H2, wordsF ws = some ps → H p = none → Ex H H2 → PL H2 p ps → Q (.ref p) H2) (kE : wordsF ws = none → ∀ H2, Ex H H2 → R H2) : tLc (iList K tl) (gName i) tYes te vs σ H Q :=
  hs H (Ex.refl _) _ fun a H1 na e1 hx => by
    refine ⟨a, rfl, ⟨_, SqL.of hx⟩, fun Dl hD => ?_⟩
    have nad : a ≠ Dl := fun z => by rw [z, hD] at hx; cases hx
    refine lc_list (xs := ws.map V.str) (fun n H' => Ex H1 H' ∧ H' a = some (.lst (ws.map V.str)) ∧ ∃ acc qs, H' Dl = some (.lst acc) ∧ Tps H' acc qs ∧ wordsF (ws.take n) = some qs ∧ acc.length ≤ n)
      ⟨Ex.new hD, by rw [upd_ne nad]; exact hx, [], [], upd_same, .nil, rfl, Nat.le_refl _⟩ (fun n H' _ ⟨_, h, _⟩ => SqL.of h) ?_ ?_
    · rintro n x H' hn ⟨e2, ha, acc, qs, hd, ht, hf, hl⟩
      rw [List.getElem?_map] at hn
      cases q : ws[n]? with
      | none => rw [q] at hn; cases hn
      | some w =>
        rw [q] at hn
        injection hn with hn
        subst hn
        refine ⟨hw _, ?_⟩
        have lt : n < ws.length := (List.getElem?_eq_some_iff.mp q).1
        refine he w (List.mem_of_getElem? q) H' (e1.trans e2) _ (fun p v H3 hp e3 tv => ?_) fun hp H3 e3 => kE (words_none q hp) H3 ((e1.trans e2).trans e3)
        have hd3 := e3 _ _ hd
        refine ⟨acc, hd3, sz_lt (by omega), Ex.mut (e2.trans e3) hD, by rw [upd_ne nad]; exact e3 _ _ ha, acc ++ [v], qs ++ [p], upd_same, pr_app ((ht.mono e3).upd hd3) (.cons (tv.upd hd3) .nil), ?_, by rw [List.length_append, List.length_singleton]; omega⟩
        rw [take_snoc q]
        exact words_snoc hf hp
    · rintro H' ⟨e2, ha, acc, qs, hd, ht, hf, hl⟩
      rw [List.length_map, List.take_length] at hf
      exact k qs Dl H' hf (fresh_back e1 hD) (e1.trans e2) ⟨acc, hd, ht⟩
end
/-- no text -/
inductive NoS (H : Hp) : V → Prop where
  | non : NoS H .non
  | bl (b : Bool) : NoS H (.bl b)
  | int (i : Int) : NoS H (.int i)
  | lst {a : Addr} {xs : List V} (h : H a = some (.lst xs)) : NoS H (.ref a)
theorem NoS.mono {H H' : Hp} {v : V} (e : Ex H H') (h : NoS H v) : NoS H' v := by
  cases h with
  | non => exact .non
  | bl b => exact .bl b
  | int i => exact .int i
  | lst h => exact .lst (e _ _ h)
theorem NoS.ty {K : PySem.W.Frag} {H : Hp} {v : V} (h : NoS H v) : ∃ n : String, (∀ H1, Ex H H1 → TyOf K H1 v (.type n)) ∧ PySem.W.kitOne K (.type n) (.type "str") = some false := by
  cases h with
  | non => exact ⟨"NoneType", fun _ _ => .non, kit_ty (by decide +kernel)⟩
  | bl b => exact ⟨"bool", fun _ _ => .bl b, kit_ty (by decide +kernel)⟩
  | int i => exact ⟨"int", fun _ _ => .int i, kit_ty (by decide +kernel)⟩
  | lst h => exact ⟨"list", fun _ e => .lst (e _ _ h), kit_ty (by decide +kernel)⟩
/-- heaps are read of a text, or it is BadText; of what is no text too -/
def spRead (CT : Addr) : Sp := fun vs H Q E => ∃ v, vs = [v] ∧ ((∃ t, v = .str t ∧ t.length ≤ 40000 ∧ (∀ ps, readF t = some ps → ∀ p H', H p = none → Ex H H' → PL H' p ps → Q (.ref p) H') ∧ (readF t = none → ∀ H', Ex H H' → E (.ref CT) none H')) ∨ (NoS H v ∧ ∀ H', Ex H H' → E (.ref CT) none H'))
section
variable {P : Program} {w : World} {K : PySem.W.Frag} {mg : Str → Option Value} {base : Heap}
abbrev nRead : List Str := ["text", "word"]
theorem scRead : FnScope ["text", "word"] ["text"] (defScope sRead) := ⟨rfl, rfl, rfl, by decide +kernel, rfl, by decide +kernel, by decide +kernel⟩
open Evl in
theorem okRead {f fH CT : Addr} {fd fdH : FuncData} (F : Fun K "read" "read" sRead f fd) (m : Ms mg) (cRH : Clx P w K mg base "read_heap" 3 ["word"] (spWord CT) fH fdH) (xT : XTxt K mg "BadText" CT) (gN : ∃ t, mg "NO_HEAPS" = some (.str (Str.ofString "-") t)) : FnOk P w K mg base (L2N.CX P w) 4 f fd ["text"] (spRead CT) := by
  refine F.okN scRead (fun vs H Q E h => ?_) (fun cdv A outer s H vs Q E hr h => ?_)
  · obtain ⟨v, rfl, _⟩ := h
    rfl
  · obtain ⟨v, rfl, h⟩ := h
    obtain ⟨tN, gN⟩ := gN
    have nd := scRead.nd
    refine ⟨_, (pss_cons (ps_if (pt_not (pt_val (pe_callB call_isi (by rfl) m.isinstance_ (by decide +kernel) (pa_cons (pv 0) (pa_cons (pe_bltn (v := .ty "str") (by rfl) m.str_ (by decide +kernel) rfl) pa_nil)))))
      (pss_one (L2N.ps_raise rfl (L2N.takes_of rfl rfl rfl rfl) (L2N.pmk_own PySem.F.excBase_ValueError xT.x xT.g xT.k (raises_own xT.b xT.t) rfl)))
      pss_nil)
    (pss_cons (ps_if (pt_cmpR op_eq (pv 0) (pe_glob (v := .str (Str.ofString "-")) (by rfl) gN ⟨_, rfl⟩) (nomark _))
      (pss_one (ps_ret (pe_lst pa_nil)))
      pss_nil)
    (pss_one (ps_ret (pe_lcX (own := [("word", 1)]) (g := (gName 1)) rfl nd rfl rfl (L2N.takes_of rfl rfl rfl rfl) (pi_list (pe_m1 PySem.F.slot_str_split PySem.F.type_str_split mt_split (pv 0) pe_str)) (blkOk_by (own := [("word", 1)]) (N := nRead) (sc := defScope sRead) (by decide +kernel)) (fun _ _ _ _ _ => (pg_name (i := 1) nd rfl (by first | exact Or.inl rfl | exact Or.inr rfl))) (fun _ _ _ _ _ _ hxo => (pe_callS cRH.F (hr.mono (by decide)) (by rfl) cRH.g cRH.kp cRH.b hxo (pa_cons (pv 1) pa_nil)))))))), ?_⟩
    rcases h with ⟨t, rfl, hz, kQ, kE⟩ | ⟨no, kE⟩
    · refine q_when (b := false) (et_is (et_not (et_B (e_isi (b := true) (ev_var rfl) ev_c (.ty _) (fun H1 e => .base (.str t)) (kit_ty (by decide +kernel))))) rfl) (fun z => nomatch z) fun _ H1 e1 => ?_
      refine q_when (b := decide (t = Str.ofString "-")) (et_test (e_eqT (ev_var rfl) ev_c)) (fun c H2 e2 => ?_) fun c H2 e2 => ?_
      · have c := of_decide_eq_true c
        refine s_retL (el_lst (vs := []) ea_nil (by simp)) fun p H3 np e3 hp => kQ [] ?_ p H3 (fresh_back (e1.trans e2) np) ((e1.trans e2).trans e3) ⟨[], hp, .nil⟩
        unfold readF
        rw [if_pos c]
      · have c := of_decide_eq_false c
        have rd : readF t = wordsF (Txt.split t (Str.ofString " ")) := by unfold readF; rw [if_neg c]
        rw [rd] at kQ kE
        refine lc_words (R := fun H' => E (.ref CT) none H') (ws := Txt.split t (Str.ofString " ")) (fun _ => rfl) (el_split (ev_var rfl) ev_c (by decide +kernel) (by omega)) (by have := split_cnt t; omega) (fun u hu H3 e3 Q3 k3 kE3 => ?_) (fun ps p H3 h3 np e3 hp => kQ ps h3 p H3 (fresh_back (e1.trans e2) np) ((e1.trans e2).trans e3) hp) fun hn H3 e3 => kE hn H3 ((e1.trans e2).trans e3)
        refine ev_var (v := .str u) (i := 1) rfl H3 (Ex.refl _) _ fun H4 e4 => ⟨u, rfl, by have := split_mem hu; omega, fun q hq v H5 e5 tv => k3 q v H5 hq (e4.trans e5) tv, fun hn H5 e5 => kE3 hn H5 (e4.trans e5)⟩
    · obtain ⟨n, ht, hk⟩ := no.ty (K := K)
      exact q_when (b := true) (et_is (et_not (et_B (e_isi (b := false) (ev_var rfl) ev_c (.ty _) (fun H1 e => .base (ht H1 e)) hk))) rfl) (fun _ H1 e1 => kE H1 e1) (fun z => nomatch z)
end

end Sp

set_option Elab.async false
set_option linter.all false
set_option maxRecDepth 100000
set_option maxHeartbeats 1000000
namespace Sp
open PySem L2 Mth
open Evl (Ex)
/-! ### written -/
section
open Evl
variable {K : PySem.W.Frag} {σ : L2.St} {H : Hp} {ta tb te : TE}
theorem e_abs {i : Int} (ha : Ev ta σ H (.int i)) : Ev (tCB (fun xs H Q => ∃ i, xs = [.int i] ∧ Q (.int (if i < 0 then -i else i)) H) (tCons ta tNil)) σ H (.int (if i < 0 then -i else i)) := fun H1 e Q q =>
  ha H1 e _ fun H2 e2 => ⟨i, rfl, q H2 e2⟩
theorem e_ltV {i j : Int} (ha : Ev ta σ H (.int i)) (hb : Ev tb σ H (.int j)) : Ev (tOp (rI0 fun i j => .bl (decide (i < j))) ta tb) σ H (.bl (decide (i < j))) := ev_op ha hb (rv_I0 (g := fun i j => .bl (decide (i < j))))
theorem e_str {i : Int} (ha : Ev ta σ H (.int i)) (hi : i.natAbs.log2 < 1920) : Ev (tCB (fun xs H Q => ∃ i, xs = [.int i] ∧ i.natAbs.log2 < 1920 ∧ Q (.str (Str.ofString (toString i))) H) (tCons ta tNil)) σ H (.str (Str.ofString (toString i))) := fun H1 e Q q =>
  ha H1 e _ fun H2 e2 => ⟨i, rfl, hi, q H2 e2⟩
theorem e_addT {x y : Str} (ha : Ev ta σ H (.str x)) (hb : Ev tb σ H (.str y)) (hz : x.length + y.length ≤ 100000) : Ev (tOp (fun x y H Q => ∃ i j, x = .str i ∧ y = .str j ∧ i.length + j.length ≤ sizeLine ∧ Q (.str (i ++ j)) H) ta tb) σ H (.str (x ++ y)) :=
  ev_op ha hb fun H1 _ Q q => ⟨x, y, rfl, rfl, sz_of hz, q H1 (Ex.refl _)⟩
theorem e_joinT {ys : List Str} {a : Str} (ha : Ev ta σ H (.str a)) (h : EvL te σ H (ys.map V.str)) (hz : (ys.map fun x => x.length).sum + ys.length * a.length ≤ 16777216) :
    Ev (tM1 (fun x xs H Q => ∃ a p, ∃ ys : List Str, x = .str a ∧ xs = [.ref p] ∧ (SqL K H p (ys.map V.str) ∨ SqT K H p (ys.map V.str)) ∧ (ys.map fun x => x.length).sum + ys.length * a.length ≤ 16777216 ∧ Q (.str (Txt.join a ys)) H) ta te) σ H (.str (Txt.join a ys)) := fun H1 e Q q =>
  ha H1 e _ fun H2 e2 => ⟨⟨a, rfl⟩, h H2 (e.trans e2) _ fun p H3 _ e3 hp => ⟨a, p, ys, rfl, rfl, .inl (SqL.of hp), hz, q H3 (e2.trans e3)⟩⟩
end
theorem log_60 {i : Int} (h : i.natAbs < 10 ^ 60) : i.natAbs.log2 < 1920 := by
  by_cases z : i.natAbs = 0
  · rw [z]; decide
  · rw [Nat.log2_lt z]
    exact Nat.lt_of_lt_of_le h (by decide)
theorem len_60 {i : Int} (h : i.natAbs < 10 ^ 60) : (Str.ofString (toString i)).length ≤ 61 := by
  rcases Int.natAbs_eq i with e | e
  · rw [e, TL.len_tl, TL.tl_num]
    have := TL.numL_len (n := i.natAbs) (k := 60) (by decide) h
    omega
  · by_cases z : i.natAbs = 0
    · rw [e, z]; decide +kernel
    · rw [e, toString_negInt _ z, TL.len_tl, TL.tl_ofString, String.toList_append, List.map_append, List.length_append, ← TL.tl_ofString (toString ((i.natAbs : Nat) : Int)), TL.tl_num]
      have := TL.numL_len (n := i.natAbs) (k := 60) (by decide) h
      have : (List.map Char.toNat "-".toList).length = 1 := rfl
      omega
theorem fit_60 {q : P2} (h : fit60 q = true) : q.1.natAbs < 10 ^ 60 ∧ q.2.natAbs < 10 ^ 60 := by
  unfold fit60 at h
  simp only [Bool.and_eq_true, decide_eq_true_eq] at h
  exact h
theorem len_colon : (Str.ofString ":").length = 1 := by decide +kernel
theorem len_blank : (Str.ofString " ").length = 1 := by decide +kernel
theorem word_len {q : P2} (h : fit60 q = true) : (wordT q).length ≤ 123 := by
  obtain ⟨h1, h2⟩ := fit_60 h
  unfold wordT
  rw [str_len_app, str_len_app, len_colon]
  have := len_60 h1
  have := len_60 h2
  omega
theorem words_len : ∀ {ps : List P2}, ps.all fit60 = true → ((ps.map wordT).map fun x => x.length).sum ≤ 123 * ps.length
  | [], _ => Nat.zero_le _
  | q :: r, h => by
    rw [List.all_cons, Bool.and_eq_true] at h
    have := word_len h.1
    have := words_len h.2
    simp only [List.map_cons, List.sum_cons, List.length_cons]
    omega
theorem empty_app (x : Str) : Str.empty ++ x = x := TL.ext_tl (by rw [TL.tl_append]; rfl)
section
open Evl
variable {K : PySem.W.Frag} {σ : L2.St} {H : Hp}
theorem e_wordF {i j : Nat} {q : P2} (hi : σ[i]? = some (some (.int q.1))) (hj : σ[j]? = some (some (.int q.2))) (h : fit60 q = true) : Ev (fun σ H Q => tJs [tFmt (tVar i), tC (.str ":"), tFmt (tVar j)] Str.empty σ H fun out H1 => Q (.str out) H1) σ H (.str (wordT q)) := fun H1 e Q k => by
  obtain ⟨h1, h2⟩ := fit_60 h
  have l1 := len_60 h1
  have l2 := len_60 h2
  have c := len_colon
  have z : Str.empty.length = 0 := rfl
  have := k H1 (Ex.refl _)
  unfold wordT at this
  refine ⟨_, hi, .inr ⟨q.1, rfl, log_60 h1, _, rfl, sz_of ?_, _, rfl, sz_of ?_, _, hj, .inr ⟨q.2, rfl, log_60 h2, _, rfl, sz_of ?_, ?_⟩⟩⟩
  · rw [empty_app]
    omega
  · rw [empty_app, str_len_app]
    omega
  · rw [empty_app, str_len_app, str_len_app]
    omega
  · rw [empty_app]
    exact this
end
abbrev nFits : List Str := ["number"]
theorem scFits : FnScope ["number"] ["number"] (defScope sFits) := ⟨rfl, rfl, rfl, by decide +kernel, rfl, by decide +kernel, by decide +kernel⟩
def spFits : Sp := fun vs H Q _ => ∃ i : Int, vs = [.int i] ∧ ∀ H', Ex H H' → Q (.bl (decide (i.natAbs < 10 ^ 60))) H'
section
variable {P : Program} {w : World} {K : PySem.W.Frag} {mg : Str → Option Value} {base : Heap}
theorem okFits {f : Addr} {fd : FuncData} (F : Fun K "fits" "fits" sFits f fd) (m : Ms mg) : FnOk P w K mg base CX0 1 f fd ["number"] spFits := by
  refine F.ok scFits (fun vs H Q E h => ?_) (fun cdv A outer s H vs Q E hr h => ?_)
  · obtain ⟨i, rfl, _⟩ := h
    rfl
  · obtain ⟨i, rfl, k⟩ := h
    have nd := scFits.nd
    refine ⟨_, (pss_one (ps_ret (pe_cmpR op_lt (pe_callB call_abs (by rfl) m.abs_ (by decide +kernel) (pa_cons (pv 0) pa_nil)) (pe_op op_pow pe_int pe_int) (nomark _)))), ?_⟩
    refine Evl.s_ret (ev_is2 (e_ltV (e_abs (Evl.ev_var rfl)) (e_pow Evl.ev_c Evl.ev_c ⟨by decide, by decide, by decide⟩)) ?_) fun H1 e1 => k H1 e1
    have e : ((10 : Nat) ^ 60 : Nat) = 1000000000000000000000000000000000000000000000000000000000000 := by decide
    have e2 : (10 : Int) ^ (60 : Int).toNat = 1000000000000000000000000000000000000000000000000000000000000 := by decide
    rw [e, e2]
    refine congrArg V.bl (decide_eq_decide.mpr ?_)
    split <;> omega
open Evl in
theorem ev_fits {σ : L2.St} {H : Hp} {ta : TA} {i : Int} (h : EvA ta σ H [.int i]) : Ev (tCall spFits [] E0 ta) σ H (.bl (decide (i.natAbs < 10 ^ 60))) :=
  ev_call h fun H1 e _ q _ => ⟨i, rfl, fun H2 e2 => q H2 e2⟩
/-- heaps that fit are written -/
def spWrit : Sp := fun vs H Q _ => ∃ a ps, vs = [.ref a] ∧ PL H a ps ∧ Ok ps ∧ ps.all fit60 = true ∧ ps.length ≤ 50000 ∧ ∀ H', Ex H H' → Q (.str (textF ps)) H'
abbrev nWritten : List Str := ["heaps", "place", "count"]
theorem scWritten : FnScope ["heaps", "place", "count"] ["heaps"] (defScope sWritten) := ⟨rfl, rfl, rfl, by decide +kernel, rfl, by decide +kernel, by decide +kernel⟩
open Evl in
theorem okWrit {f fC fF : Addr} {fd fdC fdF : FuncData} (F : Fun K "written" "written" sWritten f fd) (cCheck : Cl P w K mg base "check_heaps" 3 ["heaps"] spCheckHeaps fC fdC) (cFits : Cl P w K mg base "fits" 1 ["number"] spFits fF fdF) (m : Ms mg) (gN : ∃ t, mg "NO_HEAPS" = some (.str (Str.ofString "-") t)) : FnOk P w K mg base CX0 4 f fd ["heaps"] spWrit := by
  refine F.ok scWritten (fun vs H Q E h => ?_) (fun cdv A outer s H vs Q E hr h => ?_)
  · obtain ⟨a, ps, rfl, _⟩ := h
    rfl
  · obtain ⟨a, ps, rfl, hl, ho, hf, hz, k⟩ := h
    obtain ⟨tN, gN⟩ := gN
    have nd := scWritten.nd
    refine ⟨_, (pss_cons (ps_expr (pe_call cCheck.F (hr.mono (by decide)) (by rfl) cCheck.g cCheck.kp cCheck.b .nil pass0 (pa_cons (pv 0) pa_nil)))
    (pss_cons (ps_for PassesOwn.never rfl (pi_list (pv 0)) (pg_tup (by rfl) (pgs_cons (pg_name (i := 1) nd rfl (by first | exact Or.inl rfl | exact Or.inr rfl)) (pgs_cons (pg_name (i := 2) nd rfl (by first | exact Or.inl rfl | exact Or.inr rfl)) pgs_nil)))
      (pss_one (ps_if (PW.pt (pw_or (pt_not (pt_val (pe_call cFits.F (hr.mono (by decide)) (by rfl) cFits.g cFits.kp cFits.b .nil pass0 (pa_cons (pv 1) pa_nil)))) (pw_or1 (pt_not (pt_val (pe_call cFits.F (hr.mono (by decide)) (by rfl) cFits.g cFits.kp cFits.b .nil pass0 (pa_cons (pv 2) pa_nil)))))))
        (pss_one ps_never)
        pss_nil)))
    (pss_cons (ps_if (pt_cmpR op_eq (pe_callB call_len_seq (by rfl) m.len_ PySem.boot_len (pa_cons (pv 0) pa_nil)) pe_int (nomark _))
      (pss_one (ps_ret (pe_glob (v := .str (Str.ofString "-")) (by rfl) gN ⟨_, rfl⟩)))
      pss_nil)
    (pss_one (ps_ret (pe_join pe_str (pe_lc (own := [("place", 1), ("count", 2)]) (g := (gTup K 2 (gCons (gName 1) (gCons (gName 2) gNil)))) rfl nd (pi_list (pv 0)) (blkOk_by (own := [("place", 1), ("count", 2)]) (N := nWritten) (sc := defScope sWritten) (by decide +kernel)) (fun _ _ _ _ _ => (pg_tup (by rfl) (pgs_cons (pg_name (i := 1) nd rfl (by first | exact Or.inl rfl | exact Or.inr rfl)) (pgs_cons (pg_name (i := 2) nd rfl (by first | exact Or.inl rfl | exact Or.inr rfl)) pgs_nil)))) (fun _ _ _ _ _ => pts_nil) (fun _ _ _ _ _ => (pe_joined (PJ.cons (pe_fmt (pv 1)) (PJ.cons pe_str (PJ.cons (pe_fmt (pv 2)) PJ.nil)))))))))))), ?_⟩
    refine q_drop (v := .non) (ev_call (vs := [.ref a]) (ea_cons (ev_var rfl) ea_nil) fun H1 e Q q _ => ⟨a, ps, rfl, hl.mono e, ho, q H1 (Ex.refl _)⟩) fun H1 e1 => ?_
    obtain ⟨vs, h1, h2⟩ := hl.mono e1
    refine q_forL (K := K) (a := a) (xs := vs) (ev_var rfl) (sq_of h1) (fun i σ H' => ∃ o1 o2, σ = [some (.ref a), o1, o2] ∧ Ex H1 H') (fun H2 e2 => ⟨_, _, rfl, e2⟩) (fun i σ' H' _ ⟨_, _, _, e⟩ => SqL.of (e _ _ h1)) (fun i x σ' H2 hi hP => ?_) fun σ' H2 hP => ?_
    · obtain ⟨o1, o2, rfl, e2⟩ := hP
      obtain ⟨q, hq, tq⟩ := pr_get h2 hi
      obtain ⟨f1, f2⟩ := fit_60 (List.all_eq_true.mp hf q (List.mem_of_getElem? hq))
      refine g_pair (tq.mono e2) ?_
      exact s_when (b := false) (et_is (et_or (a := !decide (q.1.natAbs < 10 ^ 60)) (b := !decide (q.2.natAbs < 10 ^ 60)) (et_not (et_B (ev_fits (ea_cons (ev_var rfl) ea_nil)))) fun _ => et_not (et_B (ev_fits (ea_cons (ev_var rfl) ea_nil)))) (by rw [decide_eq_true f1, decide_eq_true f2]; rfl)) (fun z => nomatch z) fun _ H3 e3 => ⟨_, _, rfl, e2.trans e3⟩
    · obtain ⟨o1, o2, rfl, e2⟩ := hP
      have hl2 := (hl.mono e1).mono e2
      refine q_when (e_eqi (e_lenP (ev_var rfl) hl2) ev_c) (fun c H3 e3 => ?_) fun c H3 e3 => ?_
      · have c := of_decide_eq_true c
        have z : ps = [] := List.length_eq_zero_iff.mp (by omega)
        have k := k H3 ((e1.trans e2).trans e3)
        rw [z] at k
        exact s_ret ev_c fun H4 e4 => by
          have k := ‹∀ H', Ex H H' → _› H4 (((e1.trans e2).trans e3).trans e4)
          rw [z] at k
          exact k
      · have c := of_decide_eq_false c
        have nz : ps ≠ [] := fun z => c (by rw [z]; rfl)
        have et : textF ps = Txt.join (Str.ofString " ") (ps.map wordT) := by unfold textF; rw [if_neg nz]
        have wl := words_len hf
        have lb := len_blank
        rw [et] at k
        refine s_ret (e_joinT (K := K) ev_c (el_is (lcP_all (K := K) (g := fun q => .str (wordT q)) (fun _ _ => rfl) (sl_of (ev_var rfl) (hl2.mono e3)) hz (fun q hq H4 e4 => e_wordF rfl rfl (List.all_eq_true.mp hf q hq))) (by rw [List.map_map]; rfl)) (by rw [lb, List.length_map]; omega)) fun H4 e4 => k H4 (((e1.trans e2).trans e3).trans e4)
end

end Sp

set_option Elab.async false
set_option linter.all false
set_option maxRecDepth 100000
set_option maxHeartbeats 1000000
namespace Sp
open PySem L2 Mth
open Evl (Ex)
/-! ### the law's own reader -/
section
open Evl
variable {K : PySem.W.Frag} {σ : L2.St} {H H' : Hp} {ta tb te to tl th : TE} {t : TT} {tA : TA} {w x y : Str} {v : V} {D : Ends} {tz : TS} {xs ys : List V}
theorem el_if {b : Bool} (h : EvT t σ H b) (h1 : b = true → EvL ta σ H xs) (h2 : b = false → EvL tb σ H xs) : EvL (tIf t ta tb) σ H xs := fun H1 e Q k => h H1 e _ fun H2 e2 => by
  cases b with
  | true => rw [if_pos rfl]; exact h1 rfl H2 (e.trans e2) Q fun p H3 np e3 hp => k p H3 (fresh_back e2 np) (e2.trans e3) hp
  | false => rw [if_neg Bool.false_ne_true]; exact h2 rfl H2 (e.trans e2) Q fun p H3 np e3 hp => k p H3 (fresh_back e2 np) (e2.trans e3) hp
theorem e_ix0 {c : Nat} {r : List Nat} (ha : Ev ta σ H (.str w)) (e : TL.tl w = c :: r) (hz : w.length ≤ 100000) : Ev (tOp rIxS ta (tC (.int 0))) σ H (.str ⟨#[c]⟩) := ev_op ha ev_c (rv_ixS hz (show atI (TL.tl w) 0 = some c by rw [e]; exact atI_nat (j := 0) rfl))
theorem e_anyV {bs : List Bool} {a : Addr} (ha : Ev ta σ H (.ref a)) (h : H a = some (.lst (bs.map V.bl))) : Ev (tCB (rAny K) (tCons ta tNil)) σ H (.bl (bs.any id)) := fun H1 e Q k =>
  ha H1 e _ fun H2 e2 => ⟨a, bs, rfl, SqL.of ((e.trans e2) _ _ h), k H2 e2⟩
end
def optV : Option Int → V
  | none => .non
  | some n => .int n
theorem optV_flat (o : Option Int) : flatV (optV o) = true := by cases o <;> rfl
section
variable {P : Program} {w : World} {K : PySem.W.Frag} {mg : Str → Option Value} {base : Heap}
/-! one number -/
abbrev nLawNumber : List Str := ["_law_text", "_law_figures"]
theorem scLawNumber : FnScope ["_law_text", "_law_figures"] ["_law_text"] (defScope sLawNumber) := ⟨rfl, rfl, rfl, by decide +kernel, rfl, by decide +kernel, by decide +kernel⟩
def spLN : Sp := fun vs H Q _ => ∃ t, vs = [.str t] ∧ t.length ≤ 100000 ∧ ∀ H', Ex H H' → Q (optV (placeF t)) H'
open Evl in
theorem okLN {f : Addr} {fd : FuncData} (F : Fun K "_law_number" "_law_number" sLawNumber f fd) (m : Ms mg) : FnOk P w K mg base CX0 1 f fd ["_law_text"] spLN := by
  refine F.ok scLawNumber (fun vs H Q E h => ?_) (fun cdv A outer s H vs Q E hr h => ?_)
  · obtain ⟨t, rfl, _⟩ := h
    rfl
  · obtain ⟨t, rfl, hz, k⟩ := h
    have nd := scLawNumber.nd
    refine ⟨_, (pss_cons (ps_set (i := 1) nd rfl (by first | exact Or.inl rfl | exact Or.inr rfl) (pe_ifExp (pt_cmpR op_eq (pe_slice sl_str (pv 0) po_none (po_some pe_int)) pe_str (nomark _)) (pe_slice sl_str (pv 0) (po_some pe_int) po_none) (pv 0)))
    (pss_cons (ps_if (PW.pt (pw_or (pt_cmpR op_eq (pv 1) pe_str (nomark _)) (pw_or (pt_cmpR op_gt (pe_callB call_len_str (by rfl) m.len_ PySem.boot_len (pa_cons (pv 1) pa_nil)) pe_int (nomark _)) (pw_or (pt_cmpR op_ne (pe_m1 PySem.F.slot_str_strip PySem.F.type_str_strip mt_stripChars (pv 1) pe_str) pe_str (nomark _)) (pw_or1 (PW.pt (pw_and (pt_cmpR op_eq (pe_ix (r := rIxS) ix_str (pv 1) pe_int (fun _ _ => rfl)) pe_str (nomark _)) (pw_and1 (pt_cmpR op_ne (pv 0) pe_str (nomark _))))))))))
      (pss_one (ps_ret pe_non))
      pss_nil)
    (pss_one (ps_ret (pe_callTy call_int_str (by rfl) m.int_ (by decide +kernel) (pa_cons (pv 0) pa_nil)))))), ?_⟩
    have fl := figs_len t
    obtain ⟨bad, good⟩ := law_num t
    refine q_asg (v := .str (figsOf t)) (ev_if (b := decide (cutS t none (some 1) = Str.ofString "-")) (et_test (e_eqT (e_cutS (ev_var rfl) eo_none (eo_some ev_c) hz) ev_c)) (fun c => ev_is2 (e_cutS (ev_var rfl) (eo_some ev_c) eo_none hz) (by unfold figsOf; rw [if_pos (of_decide_eq_true c)])) fun c => ev_is2 (ev_var rfl) (by unfold figsOf; rw [if_neg (of_decide_eq_false c)])) fun H1 e1 => ?_
    refine q_when (b := badNum t) (et_is (et_or (a := decide (figsOf t = Str.ofString "")) (b := decide (60 < (figsOf t).length) || (!decide (Txt.stripChars (figsOf t) (Str.ofString "0123456789") = Str.ofString "") || (decide ((TL.tl (figsOf t)).head? = some 48) && !decide (t = Str.ofString "0")))) (et_test (e_eqT (ev_var rfl) ev_c)) fun c => ?_) rfl) (fun c H2 e2 => ?_) fun c H2 e2 => ?_
    · refine et_or (a := decide (60 < (figsOf t).length)) (et_is (et_test (ev_op (e_lenT (ev_var rfl) (by omega)) ev_c (rv_I0 (g := fun i j => .bl (decide (j < i)))))) (decide_eq_decide.mpr (by omega))) fun _ => et_or (et_test (e_neT (e_stripC (ev_var rfl) ev_c (by omega)) ev_c)) fun _ => ?_
      obtain ⟨d, r, e⟩ : ∃ d r, TL.tl (figsOf t) = d :: r := by
        cases q : TL.tl (figsOf t) with
        | nil => exact absurd (by rw [sEmpty]; exact tl_eq q) (of_decide_eq_false c)
        | cons d r => exact ⟨d, r, rfl⟩
      refine et_and (a := decide ((TL.tl (figsOf t)).head? = some 48)) (et_is (et_test (e_eqT (e_ix0 (ev_var rfl) e (by omega)) ev_c)) (decide_eq_decide.mpr ?_)) fun _ => et_test (e_neT (ev_var rfl) ev_c)
      rw [s0, e, eq_tl (l := [48])]
      show [d] = [48] ↔ some d = some 48
      simp
    · have k := k H2 (e1.trans e2)
      rw [bad c] at k
      exact s_ret ev_c fun H3 e3 => by
        have k := ‹∀ H', Ex H H' → Q (optV (placeF t)) H'› H3 ((e1.trans e2).trans e3)
        rw [bad c] at k
        exact k
    · obtain ⟨n, p, i, l⟩ := good c
      rw [p] at k
      exact s_ret (e_intT (ev_var rfl) i (by omega)) fun H3 e3 => k H3 ((e1.trans e2).trans e3)
theorem ev_LN {σ : L2.St} {H : Hp} {ta : TA} {t : Str} (h : Evl.EvA ta σ H [.str t]) (hz : t.length ≤ 100000) : Evl.Ev (tCall spLN [] E0 ta) σ H (optV (placeF t)) :=
  Evl.ev_call h fun H1 e _ q _ => ⟨t, rfl, hz, fun H2 e2 => q H2 e2⟩
/-! the heaps of a text -/
abbrev nLawIn : List Str := ["_law_text", "_law_found", "_law_word", "_law_place", "_law_colon", "_law_count", "_law_one"]
theorem scLawIn : FnScope ["_law_text", "_law_found", "_law_word", "_law_place", "_law_colon", "_law_count", "_law_one"] ["_law_text"] (defScope sLawIn) := ⟨rfl, rfl, rfl, by decide +kernel, rfl, by decide +kernel, by decide +kernel⟩
def spLI : Sp := fun vs H Q _ => ∃ t, vs = [.str t] ∧ t.length ≤ 40000 ∧ (readF t = none → ∀ H', Ex H H' → Q .non H') ∧ (∀ ps, readF t = some ps → ∀ p H', H p = none → Ex H H' → PL H' p ps → Q (.ref p) H')
open Evl in
theorem okLI {f fN : Addr} {fd fdN : FuncData} (F : Fun K "_law_in" "_law_in" sLawIn f fd) (cLN : Cl P w K mg base "_law_number" 1 ["_law_text"] spLN fN fdN) : FnOk P w K mg base CX0 2 f fd ["_law_text"] spLI := by
  refine F.ok scLawIn (fun vs H Q E h => ?_) (fun cdv A outer s H vs Q E hr h => ?_)
  · obtain ⟨t, rfl, _⟩ := h
    rfl
  · obtain ⟨t, rfl, hz, kN, kQ⟩ := h
    have nd := scLawIn.nd
    refine ⟨_, (pss_cons (ps_set (i := 1) nd rfl (by first | exact Or.inl rfl | exact Or.inr rfl) (pe_lst pa_nil))
    (pss_cons (ps_for PassesOwn.never rfl (pi_list (pe_ifExp (pt_cmpR op_ne (pv 0) pe_str (nomark _)) (pe_m1 PySem.F.slot_str_split PySem.F.type_str_split mt_split (pv 0) pe_str) (pe_lst pa_nil))) (pg_name (i := 2) nd rfl (by first | exact Or.inl rfl | exact Or.inr rfl))
      (pss_cons (ps_asg (pe_m1 PySem.F.slot_str_partition PySem.F.type_str_partition mt_partition (pv 2) pe_str) (pg_tup (by rfl) (pgs_cons (pg_name (i := 3) nd rfl (by first | exact Or.inl rfl | exact Or.inr rfl)) (pgs_cons (pg_name (i := 4) nd rfl (by first | exact Or.inl rfl | exact Or.inr rfl)) (pgs_cons (pg_name (i := 5) nd rfl (by first | exact Or.inl rfl | exact Or.inr rfl)) pgs_nil)))))
      (pss_cons (ps_set (i := 6) nd rfl (by first | exact Or.inl rfl | exact Or.inr rfl) (pe_tup (pa_cons (pe_call cLN.F (hr.mono (by decide)) (by rfl) cLN.g cLN.kp cLN.b .nil pass0 (pa_cons (pv 3) pa_nil)) (pa_cons (pe_call cLN.F (hr.mono (by decide)) (by rfl) cLN.g cLN.kp cLN.b .nil pass0 (pa_cons (pv 5) pa_nil)) pa_nil))))
      (pss_cons (ps_if (PW.pt (pw_or (pt_cmpR op_in_seq pe_non (pv 6) (by with_unfolding_all rfl)) (pw_or1 (pt_cmpR op_lt (pe_ix (r := rIxT K) ix_tup (pv 6) pe_int (fun _ _ => rfl)) pe_int (nomark _)))))
        (pss_one (ps_ret pe_non))
        pss_nil)
      (pss_one (ps_expr (pe_bm PySem.F.plainAttrs_list PySem.F.slot_list_append PySem.F.type_list_append mt_append (pv 1) (pa_cons (pv 6) pa_nil))))))))
    (pss_one (ps_ret (pv 1))))), ?_⟩
    obtain ⟨ws, hws⟩ : ∃ ws : List Str, ws = if t = Str.ofString "-" then [] else Txt.split t (Str.ofString " ") := ⟨_, rfl⟩
    have rd : readF t = wordsF ws := by
      rw [hws]
      unfold readF
      split <;> rfl
    have cnt : ws.length ≤ 40001 := by
      have := split_cnt t
      rw [hws]
      split
      · exact Nat.zero_le _
      · omega
    have mem : ∀ u ∈ ws, u.length ≤ 40000 := fun u hu => by
      rw [hws] at hu
      split at hu
      · exact nomatch hu
      · have := split_mem hu
        omega
    rw [rd] at kN kQ
    refine q_asgL (el_lst (vs := []) ea_nil (by simp)) fun l H1 nl e1 hl => ?_
    refine q_forNL (K := K) (xs := ws.map V.str) (el_if (b := !decide (t = Str.ofString "-")) (et_test (e_neT (ev_var rfl) ev_c)) (fun c => ?_) fun c => ?_)
      (fun p n σ' H' => ∃ o2 o3 o4 o5 o6, σ' = [some (.str t), some (.ref l), o2, o3, o4, o5, o6] ∧ Ex H H' ∧ H' p = some (.lst (ws.map V.str)) ∧ ∃ acc qs, H' l = some (.lst acc) ∧ Tps H' acc qs ∧ wordsF (ws.take n) = some qs ∧ acc.length ≤ n)
      (fun p H2 np e2 hp => ⟨_, _, _, _, _, rfl, e1.trans e2, hp, [], [], e2 _ _ hl, .nil, rfl, Nat.le_refl _⟩) (fun p n σ' H' _ ⟨_, _, _, _, _, _, _, h, _⟩ => SqL.of h) (fun p n x σ' H2 hn hP => ?_) fun p σ' H2 hP => ?_
    · have c : ¬ t = Str.ofString "-" := by simpa using c
      rw [hws, if_neg c]
      exact el_split (ev_var rfl) ev_c (by decide +kernel) (by omega)
    · have c : t = Str.ofString "-" := by simpa using c
      rw [hws, if_pos c]
      exact el_lst (vs := []) ea_nil (by simp)
    · obtain ⟨o2, o3, o4, o5, o6, rfl, e2, hp, acc, qs, hd, ht, hf, hlen⟩ := hP
      rw [List.getElem?_map] at hn
      cases q : ws[n]? with
      | none => rw [q] at hn; cases hn
      | some u =>
        rw [q] at hn
        injection hn with hn
        subst hn
        have ul := mem u (List.mem_of_getElem? q)
        have lt : n < ws.length := (List.getElem?_eq_some_iff.mp q).1
        obtain ⟨z1, z2⟩ := part_len u (Str.ofString ":")
        show tSeq _ _ _ ([some (.str t), some (.ref l), some (.str u), o3, o4, o5, o6]) H2
        refine q_asg3 (eu_part (w := u) (x := Str.ofString ":") (ev_var rfl) ev_c (by decide +kernel) (by omega)) fun H3 e3 => ?_
        refine q_asgU (eu_tup (vs := [optV (placeF (Txt.partition u (Str.ofString ":")).1), optV (placeF (Txt.partition u (Str.ofString ":")).2.2)]) (ea_cons (ev_LN (ea_cons (ev_var rfl) ea_nil) (by omega)) (ea_cons (ev_LN (ea_cons (ev_var rfl) ea_nil) (by omega)) ea_nil)) (by simp)) fun r H4 nr e4 hr4 => ?_
        have np := num_place (Txt.partition u (Str.ofString ":")).2.2
        have inn : ∀ H5, Ex H4 H5 → Ev (tOp (rIn K false) (tC .non) (tVar 6)) _ H5 (.bl (inV .non [optV (placeF (Txt.partition u (Str.ofString ":")).1), optV (placeF (Txt.partition u (Str.ofString ":")).2.2)])) := fun H5 e5 =>
          ev_op (σ := [some (.str t), some (.ref l), some (.str u), some (.str (Txt.partition u (Str.ofString ":")).1), some (.str (Txt.partition u (Str.ofString ":")).2.1), some (.str (Txt.partition u (Str.ofString ":")).2.2), some (.ref r)]) ev_c (ev_var rfl) (rv_isT (SqT.of (e5 _ _ hr4)) rfl (by simp [optV_flat]))
        have none_ : wordF u = none → ∀ H5, Ex H4 H5 → Q .non H5 := fun hn H5 e5 => kN (words_none q hn) H5 (((e2.trans e3).trans e4).trans e5)
        cases hp1 : placeF (Txt.partition u (Str.ofString ":")).1 with
        | none =>
          rw [hp1] at inn hr4
          refine q_when (b := true) (et_is (et_or (a := true) (b := true) (et_test (ev_is2 (inn H4 (Ex.refl _)) (by rfl))) (fun z => nomatch z)) rfl) (fun _ H5 e5 => s_ret ev_c fun H6 e6 => none_ (word_none1 hp1) H6 (e5.trans e6)) (fun z => nomatch z)
        | some n1 =>
          cases hp2 : placeF (Txt.partition u (Str.ofString ":")).2.2 with
          | none =>
            rw [hp1, hp2] at inn hr4
            rw [hp2] at np
            refine q_when (b := true) (et_is (et_or (a := true) (b := true) (et_test (ev_is2 (inn H4 (Ex.refl _)) (by rfl))) (fun z => nomatch z)) rfl) (fun _ H5 e5 => s_ret ev_c fun H6 e6 => none_ (word_none2 np) H6 (e5.trans e6)) (fun z => nomatch z)
          | some n2 =>
            rw [hp1, hp2] at inn hr4
            rw [hp2] at np
            have np : numF (Txt.partition u (Str.ofString ":")).2.2 = if n2 < 0 then none else some n2 := np
            refine q_when (b := decide (n2 < 0)) (et_is (et_or (a := false) (b := decide (n2 < 0)) (et_test (ev_is2 (inn H4 (Ex.refl _)) (by rfl))) fun _ => e_lt (ev_op (ev_var rfl) ev_c (rv_ixT (v := .int n2) (SqT.of hr4) (atI_nat (j := 1) rfl))) ev_c) (Bool.false_or _)) (fun c H5 e5 => s_ret ev_c fun H6 e6 => none_ (word_none2 (by rw [np, if_pos (of_decide_eq_true c)])) H6 (e5.trans e6)) fun c H5 e5 => ?_
            rw [if_neg (of_decide_eq_false c)] at np
            have hw : wordF u = some (n1, n2) := word_some.mpr ⟨hp1, np⟩
            have e24 := (e3.trans e4).trans e5
            have hd5 := e24 _ _ hd
            have pne : p ≠ l := fun z => by
              rw [z, hd] at hp
              have : acc = ws.map V.str := by injection hp with hp; injection hp
              cases acc with
              | nil =>
                have := congrArg List.length this
                simp at this
                omega
              | cons a r0 =>
                cases ht with
                | cons ha _ =>
                  obtain ⟨ta, rfl, _⟩ := ha
                  cases ws with
                  | nil => cases this
                  | cons w0 ws0 => injection this with h1 _; cases h1
            refine s_app hd5 (ev_var rfl) (ev_var (v := .ref r) rfl) (by omega) fun H6 e6 => ?_
            have hd6 := e6 _ _ hd5
            refine ⟨_, _, _, _, _, rfl, Ex.mut (((e2.trans e24)).trans e6) nl, by rw [upd_ne pne]; exact e6 _ _ (e24 _ _ hp), acc ++ [.ref r], qs ++ [(n1, n2)], upd_same, pr_app (((ht.mono e24).mono e6).upd hd6) (.cons (Tp.upd hd6 ⟨r, rfl, (e5.trans e6) _ _ hr4⟩) .nil), ?_, by rw [List.length_append, List.length_singleton]; omega⟩
            rw [take_snoc q]
            exact words_snoc hf hw
    · obtain ⟨o2, o3, o4, o5, o6, rfl, e2, hp, acc, qs, hd, ht, hf, hlen⟩ := hP
      rw [List.length_map, List.take_length] at hf
      exact s_ret (ev_var rfl) fun H3 e3 => kQ qs hf l H3 nl (e2.trans e3) ⟨acc, e3 _ _ hd, ht.mono e3⟩
end

end Sp

set_option Elab.async false
set_option linter.all false
set_option maxRecDepth 100000
set_option maxHeartbeats 1000000
namespace Sp
open PySem L2 Mth
open Evl (Ex)
/-- what an error of the class at CT is -/
structure KT (K : PySem.W.Frag) (CT CB CP : Addr) : Prop where
  c : ExcC K CT
  kB : PySem.W.kitOne K (.ref CT) (.ref CB) = some false
  kP : PySem.W.kitOne K (.ref CT) (.ref CP) = some false
  kT : PySem.W.kitOne K (.ref CT) (.ref CT) = some true
  kV : PySem.W.kitOne K (.ref CT) (.type "ValueError") = some true
theorem takesN {X : Cx} : L2N.Takes X (fun _ _ _ _ => False) := fun _ _ x => by
  obtain ⟨_, _, _, _, _, _, _, _, _, _, _, _, _, _, _, _, z⟩ := x
  exact z.elim
open Evl in
theorem e_isE {K : PySem.W.Frag} {σ : L2.St} {H : Hp} {ta : TE} {a D : Addr} {c : V} {cv : Value} {b : Bool} (ha : Ev ta σ H (.ref a)) (hc : ∀ u, L2.RelV c u → u = cv) (hk : PySem.W.kitOne K (.ref D) cv = some b) : Ev (tCB (rIsE K D a) (tCons ta (tCons (tC c) tNil))) σ H (.bl b) := fun H1 e Q q =>
  ha H1 e _ fun H2 e2 => ⟨c, cv, b, rfl, hc, hk, q H2 e2⟩
theorem pss_given {X : Cx} {st : List Stmt} {c : Prop} {t : TS} (h : c → PSs X st t) : PSs X st (fun D σ H => c ∧ t D σ H) :=
  ⟨fun pins s σ H D I q => (h q.1).run pins s σ H D I q.2⟩
section
variable {P : Program} {w : World} {K : PySem.W.Frag} {mg : Str → Option Value} {base : Heap}
abbrev nLawRefused : List Str := ["_law_text", "_law_others", "error"]
theorem scLawRefused : FnScope ["_law_text", "_law_others", "error"] ["_law_text"] (defScope sLawRefused) := ⟨rfl, rfl, rfl, by decide +kernel, rfl, by decide +kernel, by decide +kernel⟩
/-- it is refused -/
def spLR : Sp := fun vs H Q _ => ∃ v, vs = [v] ∧ ((∃ t, v = .str t ∧ t.length ≤ 40000 ∧ readF t = none) ∨ NoS H v) ∧ ∀ H', Ex H H' → Q (.bl true) H'
open Evl in
theorem okLR {f fR CT CB CP CH : Addr} {fd fdR : FuncData} (F : Fun K "_law_refused" "_law_refused" sLawRefused f fd) (m : Ms mg) (cRead : Clx P w K mg base "read" 4 ["text"] (spRead CT) fR fdR)
    (gH : mg "HeapError" = some (.ref CH)) (gB : mg "BadHeaps" = some (.ref CB)) (gP : mg "BadPlace" = some (.ref CP)) (gT : mg "BadText" = some (.ref CT)) (mV : mg "ValueError" = none) (ex : PySem.W.exmOne K (.ref CT) (.ref CH) = some true) (ke : KT K CT CB CP) : FnOk P w K mg base CX0 5 f fd ["_law_text"] spLR := by
  refine F.ok scLawRefused (fun vs H Q E h => ?_) (fun cdv A outer s H vs Q E hr h => ?_)
  · obtain ⟨v, rfl, _⟩ := h
    rfl
  · obtain ⟨v, rfl, h, k⟩ := h
    have nd := scLawRefused.nd
    refine ⟨_, pss_cons (L2N.ps_try_as (i := 2) (tb := fun W => tDrop (tCallS (spRead CT) (WE W) (tCons (tVar 0) tNil)))
      (ts := fun a cls d D2 σ H => (cls = .ref CT ∧ d = none) ∧ tSeq (tAsg (tLst (tCons (tCB (rIsE K CT a) (tCons (tVar 2) (tCons (tC (.ref CB)) tNil))) (tCons (tCB (rIsE K CT a) (tCons (tVar 2) (tCons (tC (.ref CP)) tNil))) tNil))) (gName 1))
        (tRet (tAndV (tCB (rIsE K CT a) (tCons (tVar 2) (tCons (tC (.ref CT)) tNil))) (tAndV (tCB (rIsE K CT a) (tCons (tVar 2) (tCons (tC (.ty "ValueError")) tNil))) (tNotV (tCB (rAny K) (tCons (tVar 1) tNil)))))) D2 σ H) (Wout := fun _ _ _ _ => False) rfl rfl nd rfl rfl ⟨rfl, by decide, .inl gH⟩ takesN
      (fun W pn xe tk _ => pss_one (ps_expr (pe_callS cRead.F (hr.mono (by decide)) (by rfl) cRead.g cRead.kp cRead.b (fun σ => L2N.passAt tk σ) (pa_cons (pv 0) pa_nil))))
      (fun a oe cls d pn hz hf => pss_given fun hc => by
        obtain ⟨rfl, rfl⟩ := hc
        have hot : L2H.HotC (Cx.suite (cxOf CX0 P w K mg base nLawRefused "_law_refused" (defScope sLawRefused) f cdv A outer s H E).nox a ((a, oe) :: pn)) := ⟨(a, oe), ⟨rfl, hf.elim fun vs hd => ⟨vs, hd, hz.2.2 vs hd⟩⟩, List.mem_cons_self⟩
        exact pss_cons (ps_set (i := 1) nd rfl (by first | exact Or.inl rfl | exact Or.inr rfl) (pe_lst (pa_cons (pe_callB (call_isE ke.c hz.zc hf) (by rfl) m.isinstance_ (by decide +kernel) (pa_cons (pv 2) (pa_cons (pe_glob (v := .ref _) (by rfl) gB rfl) pa_nil))) (pa_cons (pe_callB (call_isE ke.c hz.zc hf) (by rfl) m.isinstance_ (by decide +kernel) (pa_cons (pv 2) (pa_cons (pe_glob (v := .ref _) (by rfl) gP rfl) pa_nil))) pa_nil))))
          (pss_one (ps_ret (pe_and (pe_callB (call_isE ke.c hz.zc hf) (by rfl) m.isinstance_ (by decide +kernel) (pa_cons (pv 2) (pa_cons (pe_glob (v := .ref _) (by rfl) gT rfl) pa_nil)))
            (pe_and (pe_callB (call_isE ke.c hz.zc hf) (by rfl) m.isinstance_ (by decide +kernel) (pa_cons (pv 2) (pa_cons (pe_bltn (v := .ty "ValueError") (by rfl) mV (by decide +kernel) rfl) pa_nil)))
              (pe_one (pe_not (pe_callB (cr_anyH hot) (by rfl) m.any_ (by decide +kernel) (pa_cons (pv 1) pa_nil)))))))))
      ) (pss_one (ps_ret pe_bl)), ?_⟩
    have caught : ∀ H1, Ex H H1 → ∀ (D : Ends) (σ : L2.St) (a : Addr), σ.length = 3 → σ[2]? = some (some (.ref a)) → D.rt = Q → tSeq (tAsg (tLst (tCons (tCB (rIsE K CT a) (tCons (tVar 2) (tCons (tC (.ref CB)) tNil))) (tCons (tCB (rIsE K CT a) (tCons (tVar 2) (tCons (tC (.ref CP)) tNil))) tNil))) (gName 1))
        (tRet (tAndV (tCB (rIsE K CT a) (tCons (tVar 2) (tCons (tC (.ref CT)) tNil))) (tAndV (tCB (rIsE K CT a) (tCons (tVar 2) (tCons (tC (.ty "ValueError")) tNil))) (tNotV (tCB (rAny K) (tCons (tVar 1) tNil)))))) D σ H1 := fun H1 e1 D σ a hl h2 hD => by
      refine q_asgL (el_lst (vs := [.bl false, .bl false]) (ea_cons (e_isE (c := .ref CB) (cv := .ref CB) (ev_var h2) (fun u r => r) ke.kB) (ea_cons (e_isE (c := .ref CP) (cv := .ref CP) (ev_var h2) (fun u r => r) ke.kP) ea_nil)) (by simp)) fun p H2 np e2 hp => ?_
      have v2 : (σ.set 1 (some (.ref p)))[2]? = some (some (.ref a)) := by rw [List.getElem?_set_ne (by decide)]; exact h2
      have v1 : (σ.set 1 (some (.ref p)))[1]? = some (some (.ref p)) := List.getElem?_set_self (by omega)
      refine s_ret (ev_andV (a := true) (b := true) (e_isE (c := .ref CT) (cv := .ref CT) (ev_var v2) (fun u r => r) ke.kT) fun _ => ev_andV (a := true) (b := true) (e_isE (c := .ty "ValueError") (cv := .type "ValueError") (ev_var v2) (fun u r => r) ke.kV) fun _ => ev_notV (a := false) (e_anyV (bs := [false, false]) (ev_var v1) hp)) fun H3 e3 => ?_
      rw [hD]
      exact k H3 ((e1.trans e2).trans e3)
    refine ⟨_, rfl, v, rfl, ?_⟩
    rcases h with ⟨t, rfl, hz, hn⟩ | no
    · exact .inl ⟨t, rfl, hz, (fun ps q => by rw [hn] at q; cases q), fun _ H1 e1 => ⟨true, ex, fun _ a ha => ⟨⟨rfl, rfl⟩, caught H1 e1 _ _ a rfl rfl rfl⟩, fun z => nomatch z⟩⟩
    · exact .inr ⟨no, fun H1 e1 => ⟨true, ex, fun _ a ha => ⟨⟨rfl, rfl⟩, caught H1 e1 _ _ a rfl rfl rfl⟩, fun z => nomatch z⟩⟩
end

end Sp

set_option Elab.async false
set_option linter.all false
set_option maxRecDepth 100000
set_option maxHeartbeats 1000000
namespace Sp
open PySem L2 Mth
open Evl (Ex)
/-! ### texts, some -/
/-- a text so many times -/
def rMulS : R2 := fun x y H Q => ∃ (s : Str) (k : Int) (r : Str), x = .str s ∧ y = .int k ∧ 2 ≤ k ∧ k ≤ 5000 ∧ 0 < s.length ∧ s.length ≤ 100 ∧ Str.mk (List.foldl (fun x1 x2 => x1 ++ x2) #[] (List.replicate k.toNat s.cps)) = r ∧ r.length ≤ sizeLine ∧ Q (.str r) H
open PyProof PyProof.Rows in
theorem op_mulStr {X : Cx} : OpR X (binaryOp .Mult) rMulS := by
  intro pins s σ H x y v u Q I rx ry h
  obtain ⟨t, k, r, rfl, rfl, h1, h2, h3, h4, rfl, h5, q⟩ := h
  obtain ⟨tk, rfl⟩ := rx
  obtain ⟨tk2, rfl⟩ := ry
  refine wpAny_binaryOp_repeat (T := "str") (U := "int") (by decide) (fun s' => typeIs_str s' t tk) (fun s' => typeIs_int s' k tk2) noFill_str_mul F.fills_int_mul F.slot_int_rmul repeat_str F.slot_int_index.lookup
    (call_gives F.slot_int_rmul (typeIs_int s k tk2) F.entry_int_rmul (F.args_int_rmul_2 _ _) (AutoIntG1.int___rmul___int_str_0 k tk2 t tk) ⟨rfl, ?_⟩)
  refine call_gives F.slot_str_mul (typeIs_str s t tk) F.entry_str_mul (F.args_str_mul_2 _ _) (gives_str_mul t k tk tk2 ?_ ?_ ?_) ?_
  · rw [decide_eq_false (by omega), decide_eq_false (by omega)]
    rfl
  · intro _ _
    have : (5000 : Int) ≤ (2 ^ 63 - 1) / k := Int.le_ediv_of_mul_le (by omega) (by omega)
    omega
  · intro _ _
    have : t.length * k.toNat ≤ 100 * 5000 := Nat.mul_le_mul h4 (by omega)
    unfold Builtin.Str.tooLong
    exact decide_eq_false (by rw [sizeLine_eq]; omega)
  · rw [if_neg (by omega), if_neg (by simp; omega)]
    exact ⟨h5, .str _, H, I.tok _, ⟨_, rfl⟩, q⟩
theorem times_len (a : Array Nat) : ∀ (n : Nat) (acc : Array Nat), (List.foldl (fun x1 x2 => x1 ++ x2) acc (List.replicate n a)).size = acc.size + n * a.size
  | 0, acc => by simp
  | n + 1, acc => by
    rw [List.replicate_succ, List.foldl_cons, times_len a n, Array.size_append, Nat.succ_mul]
    omega
/-- of a kind that stays as the heap grows -/
def Stays (R : Hp → V → Prop) : Prop := ∀ H H' v, Ex H H' → R H v → R H' v
def Short (n : Nat) : Hp → V → Prop := fun _ v => ∃ w : Str, v = .str w ∧ w.length ≤ n
theorem short_stays (n : Nat) : Stays (Short n) := fun _ _ _ _ h => h
theorem noS_stays : Stays NoS := fun _ _ _ e h => h.mono e
section
open Evl
variable {K : PySem.W.Frag} {σ : L2.St} {H : Hp} {ta tb te tl : TE} {tq : TA} {w : Str} {v : V} {D : Ends} {tz : TS} {R : Hp → V → Prop} {n m : Nat} {xs : List V} {l : Addr}
/-- one of the kind; several; a list of them -/
def S1 (te : TE) (σ : L2.St) (H : Hp) (R : Hp → V → Prop) : Prop := ∀ H1, Ex H H1 → ∀ Q : VK, (∀ v H2, Ex H1 H2 → R H2 v → Q v H2) → te σ H1 Q
def SA (tq : TA) (σ : L2.St) (H : Hp) (R : Hp → V → Prop) (n : Nat) : Prop := ∀ H1, Ex H H1 → ∀ Q : List V → Hp → Prop, (∀ vs H2, Ex H1 H2 → vs.length = n → (∀ v ∈ vs, R H2 v) → Q vs H2) → tq σ H1 Q
def LS (te : TE) (σ : L2.St) (H : Hp) (R : Hp → V → Prop) (n : Nat) : Prop := ∀ H1, Ex H H1 → ∀ Q : VK, (∀ p H2 vs, H1 p = none → Ex H1 H2 → H2 p = some (.lst vs) → vs.length = n → (∀ v ∈ vs, R H2 v) → Q (.ref p) H2) → te σ H1 Q
theorem s1_ev (h : Ev te σ H v) (hr : ∀ H1, Ex H H1 → R H1 v) : S1 te σ H R := fun H1 e Q q => h H1 e _ fun H2 e2 => q v H2 e2 (hr H2 (e.trans e2))
theorem s1_new (h : EvL te σ H xs) (hr : ∀ H1 p, H1 p = some (.lst xs) → R H1 (.ref p)) : S1 te σ H R := fun H1 e Q q => h H1 e _ fun p H2 _ e2 hp => q _ H2 e2 (hr H2 p hp)
theorem s1_c (hz : w.length ≤ n) : S1 (tC (.str w)) σ H (Short n) := s1_ev ev_c fun _ _ => ⟨w, rfl, hz⟩
theorem s1_le (h : S1 te σ H (Short n)) (hz : n ≤ m) : S1 te σ H (Short m) := fun H1 e Q q => h H1 e Q fun v H2 e2 ⟨w, e3, l⟩ => q v H2 e2 ⟨w, e3, Nat.le_trans l hz⟩
theorem s1_add (ha : S1 ta σ H (Short n)) (hb : S1 tb σ H (Short m)) (hz : n + m ≤ 100000) : S1 (tOp (fun x y H Q => ∃ i j, x = .str i ∧ y = .str j ∧ i.length + j.length ≤ sizeLine ∧ Q (.str (i ++ j)) H) ta tb) σ H (Short (n + m)) := fun H1 e Q q =>
  ha H1 e _ fun v H2 e2 hv => hb H2 (e.trans e2) _ fun u H3 e3 hu => by
    obtain ⟨x, rfl, lx⟩ := hv
    obtain ⟨y, rfl, ly⟩ := hu
    exact ⟨x, y, rfl, rfl, sz_of (by omega), q _ H3 (e2.trans e3) ⟨_, rfl, by rw [str_len_app]; omega⟩⟩
theorem s1_mul {k : Int} (h2 : 2 ≤ k) (h5 : k ≤ 5000) (h0 : w.length = 1) : S1 (tOp rMulS (tC (.str w)) (tC (.int k))) σ H (Short 5000) := fun H1 e Q q => by
  have l : (Str.mk (List.foldl (fun x1 x2 => x1 ++ x2) #[] (List.replicate k.toNat w.cps))).length ≤ 5000 := by
    show Array.size _ ≤ 5000
    have := times_len w.cps k.toNat #[]
    have h0 : w.cps.size = 1 := h0
    rw [this, h0]
    show 0 + k.toNat * 1 ≤ 5000
    omega
  exact ⟨w, k, _, rfl, rfl, h2, h5, by omega, by omega, rfl, sz_of (by omega), q _ H1 (Ex.refl _) ⟨_, rfl, l⟩⟩
theorem sa_nil : SA tNil σ H R 0 := fun H1 e Q q => q [] H1 (Ex.refl _) rfl fun _ z => nomatch z
theorem sa_cons (s : Stays R) (h : S1 te σ H R) (g : SA tq σ H R n) : SA (tCons te tq) σ H R (n + 1) := fun H1 e Q q =>
  h H1 e _ fun v H2 e2 hv => g H2 (e.trans e2) _ fun vs H3 e3 hl hr => q (v :: vs) H3 (e2.trans e3) (by rw [List.length_cons, hl]) fun u hu => by
    rcases List.mem_cons.mp hu with rfl | hu
    · exact s _ _ _ e3 hv
    · exact hr u hu
theorem ls_lst (s : Stays R) (h : SA tq σ H R n) (hz : n ≤ 100000) : LS (tLst tq) σ H R n := fun H1 e Q q =>
  h H1 e _ fun vs H2 e2 hl hr => ⟨sz_of (by omega), fun p np => q p _ vs (fresh_back e2 np) (e2.trans (Ex.new np)) upd_same hl fun v hv => s _ _ _ (Ex.new np) (hr v hv)⟩
theorem ls_cat (s : Stays R) (ha : Ev ta σ H (.ref l)) (hx : H l = some (.lst xs)) (hr : ∀ v ∈ xs, R H v) (hn : xs.length = n) (hb : LS tb σ H R m) (hz : n + m ≤ 100000) : LS (tOp rCat ta tb) σ H R (n + m) := fun H1 e Q q =>
  ha H1 e _ fun H2 e2 => hb H2 (e.trans e2) _ fun p H3 vs np e3 hp hl hv => ⟨l, p, xs, vs, rfl, rfl, ((e.trans e2).trans e3) _ _ hx, hp, sz_of (by omega), fun r nr =>
    q r _ (xs ++ vs) (fresh_back (e2.trans e3) nr) ((e2.trans e3).trans (Ex.new nr)) upd_same (by rw [List.length_append, hn, hl]) fun v hm => by
      rcases List.mem_append.mp hm with hm | hm
      · exact s _ _ _ (((e.trans e2).trans e3).trans (Ex.new nr)) (hr v hm)
      · exact s _ _ _ (Ex.new nr) (hv v hm)⟩
theorem q_asgLS {i : Nat} (h : LS te σ H R n) (k : ∀ p H1 vs, H p = none → Ex H H1 → H1 p = some (.lst vs) → vs.length = n → (∀ v ∈ vs, R H1 v) → tz D (σ.set i (some (.ref p))) H1) : tSeq (tAsg te (gName i)) tz D σ H := h H (Ex.refl _) _ k
theorem s_retLS (h : LS te σ H R n) (k : ∀ p H1 vs, H p = none → Ex H H1 → H1 p = some (.lst vs) → vs.length = n → (∀ v ∈ vs, R H1 v) → D.rt (.ref p) H1) : tRet te D σ H := h H (Ex.refl _) _ k
/-- what is true of each of a kind -/
theorem el_each {i : Nat} {vs : List Nat} (s : Stays R) (hw : ∀ x, wipe ((wipe σ vs).set i (some x)) vs = wipe σ vs) (hs : LS tl σ H R n) (hz : n ≤ 50000)
    (he : ∀ v H1, Ex H H1 → R H1 v → Ev te ((wipe σ vs).set i (some v)) H1 (.bl true)) : EvL (tLc (iList K tl) (gName i) tYes te vs) σ H ((List.replicate n true).map V.bl) := fun H0 e0 Q k =>
  hs H0 e0 _ fun a H1 xs na e1 hx hn hr => by
    refine ⟨a, rfl, ⟨xs, SqL.of hx⟩, fun Dl hD => ?_⟩
    have nad : a ≠ Dl := fun z => by rw [z, hD] at hx; cases hx
    refine lc_list (xs := xs) (fun j H' => Ex H1 H' ∧ H' Dl = some (.lst ((List.replicate j true).map V.bl)) ∧ H' a = some (.lst xs))
      ⟨Ex.new hD, upd_same, by rw [upd_ne nad]; exact hx⟩ (fun j H' _ ⟨_, _, h⟩ => SqL.of h) ?_ ?_
    · rintro j x H' hj ⟨e2, hd, ha⟩
      refine ⟨hw _, ?_⟩
      have lt : j < xs.length := (List.getElem?_eq_some_iff.mp hj).1
      refine he x H' ((e0.trans e1).trans e2) (s _ _ _ e2 (hr x (List.mem_of_getElem? hj))) H' (Ex.refl _) _ fun H3 e3 => ⟨_, e3 _ _ hd, sz_lt (by rw [List.length_map, List.length_replicate]; omega), Ex.mut (e2.trans e3) hD, ?_, by rw [upd_ne nad]; exact e3 _ _ ha⟩
      rw [List.replicate_succ', List.map_append]
      exact upd_same
    · rintro H' ⟨e2, hd, ha⟩
      rw [hn] at hd
      exact k Dl H' (fresh_back e1 hD) (e1.trans e2) hd
end
theorem all_true (n : Nat) : (List.replicate n true).all id = true := by
  rw [List.all_eq_true]
  intro x hx
  exact (List.mem_replicate.mp hx).2
section
variable {P : Program} {w : World} {K : PySem.W.Frag} {mg : Str → Option Value} {base : Heap}
abbrev nLawFew : List Str := ["_law_some"]
theorem scLawFew : FnScope ["_law_some"] [] (defScope sLawFew) := ⟨rfl, rfl, rfl, by decide +kernel, rfl, by decide +kernel, by decide +kernel⟩
def spFew : Sp := fun vs H Q _ => vs = [] ∧ ∀ p H' us, H p = none → Ex H H' → H' p = some (.lst us) → us.length = 39 → (∀ v ∈ us, Short 40000 H' v) → Q (.ref p) H'
open Evl in
theorem okFew {f : Addr} {fd : FuncData} (F : Fun K "_law_few" "_law_few" sLawFew f fd) : FnOk P w K mg base CX0 1 f fd [] spFew := by
  refine F.ok scLawFew (fun vs H Q E h => ?_) (fun cdv A outer s H vs Q E hr h => ?_)
  · obtain ⟨rfl, _⟩ := h
    rfl
  · obtain ⟨rfl, k⟩ := h
    have nd := scLawFew.nd
    refine ⟨_, (pss_cons (ps_set (i := 0) nd rfl (by first | exact Or.inl rfl | exact Or.inr rfl) (pe_lst (pa_cons pe_str (pa_cons pe_str (pa_cons pe_str (pa_cons pe_str (pa_cons pe_str (pa_cons pe_str (pa_cons pe_str (pa_cons pe_str (pa_cons pe_str (pa_cons pe_str (pa_cons pe_str (pa_cons pe_str (pa_cons pe_str (pa_cons pe_str pa_nil))))))))))))))))
    (pss_cons (ps_set (i := 0) nd rfl (by first | exact Or.inl rfl | exact Or.inr rfl) (pe_op op_cat (pv 0) (pe_lst (pa_cons pe_str (pa_cons pe_str (pa_cons pe_str (pa_cons pe_str (pa_cons pe_str (pa_cons pe_str (pa_cons pe_str (pa_cons pe_str (pa_cons pe_str (pa_cons pe_str (pa_cons pe_str (pa_cons pe_str (pa_cons pe_str pa_nil))))))))))))))))
    (pss_cons (ps_set (i := 0) nd rfl (by first | exact Or.inl rfl | exact Or.inr rfl) (pe_op op_cat (pv 0) (pe_lst (pa_cons pe_str (pa_cons pe_str (pa_cons pe_str (pa_cons pe_str (pa_cons pe_str (pa_cons pe_str (pa_cons pe_str (pa_cons pe_str (pa_cons (pe_op op_add_str pe_str (pe_op op_mulStr pe_str pe_int)) pa_nil))))))))))))
    (pss_one (ps_ret (pe_op op_cat (pv 0) (pe_lst (pa_cons (pe_op op_add_str pe_str (pe_op op_mulStr pe_str pe_int)) (pa_cons (pe_op op_add_str (pe_op op_add_str pe_str (pe_op op_mulStr pe_str pe_int)) pe_str) (pa_cons (pe_op op_add_str (pe_op op_mulStr pe_str pe_int) pe_str) pa_nil)))))))))), ?_⟩
    have c1 : ∀ {σ : L2.St} {H : Hp} {w : Str}, w.length ≤ 40000 → S1 (tC (.str w)) σ H (Short 40000) := fun h => s1_c h
    have st := short_stays 40000
    refine q_asgLS (ls_lst (n := 14) st (by
      repeat (first | exact sa_nil | refine sa_cons st (c1 (by decide +kernel)) ?_)) (by decide)) fun p1 H1 xs1 n1 e1 h1 l1 r1 => ?_
    refine q_asgLS (ls_cat (n := 14) (m := 13) st (ev_var rfl) h1 r1 l1 (ls_lst st (by
      repeat (first | exact sa_nil | refine sa_cons st (c1 (by decide +kernel)) ?_)) (by decide)) (by decide)) fun p2 H2 xs2 n2 e2 h2 l2 r2 => ?_
    refine q_asgLS (ls_cat (n := 27) (m := 9) st (ev_var rfl) h2 r2 l2 (ls_lst st (by
      repeat (first | exact sa_nil | refine sa_cons st (c1 (by decide +kernel)) ?_ | refine sa_cons st (s1_le (s1_add (s1_c (n := 10) (by decide +kernel)) (s1_mul (by decide) (by decide) (by decide +kernel)) (by decide)) (by decide)) ?_)) (by decide)) (by decide)) fun p3 H3 xs3 n3 e3 h3 l3 r3 => ?_
    refine s_retLS (ls_cat (n := 36) (m := 3) st (ev_var rfl) h3 r3 l3 (ls_lst st (sa_cons st (s1_le (s1_add (s1_c (n := 10) (by decide +kernel)) (s1_mul (by decide) (by decide) (by decide +kernel)) (by decide)) (by decide))
      (sa_cons st (s1_le (s1_add (s1_add (s1_c (n := 10) (by decide +kernel)) (s1_mul (by decide) (by decide) (by decide +kernel)) (by decide)) (s1_c (n := 10) (by decide +kernel)) (by decide)) (by decide))
      (sa_cons st (s1_le (s1_add (s1_mul (by decide) (by decide) (by decide +kernel)) (s1_c (n := 10) (by decide +kernel)) (by decide)) (by decide)) sa_nil))) (by decide)) (by decide)) fun p4 H4 xs4 n4 e4 h4 l4 r4 => k p4 H4 xs4 (fresh_back ((e1.trans e2).trans e3) n4) (((e1.trans e2).trans e3).trans e4) h4 l4 r4
theorem words_cnt {ws : List Str} {ps : List P2} (h : wordsF ws = some ps) : ps.length = ws.length := by
  have := congrArg List.length (words_back h).1
  rw [List.length_map] at this
  exact this
theorem read_cnt {t : Str} {ps : List P2} (h : readF t = some ps) : ps.length ≤ t.length + 1 := by
  unfold readF at h
  split at h
  · injection h with h
    subst h
    exact Nat.zero_le _
  · rw [words_cnt h]
    exact split_cnt t
abbrev nLawRight : List Str := ["_law_text", "_law_due", "_law_found"]
theorem scLawRight : FnScope ["_law_text", "_law_due", "_law_found"] ["_law_text"] (defScope sLawRight) := ⟨rfl, rfl, rfl, by decide +kernel, rfl, by decide +kernel, by decide +kernel⟩
/-- the program reads as the law does -/
def spRight : Sp := fun vs H Q _ => ∃ t, vs = [.str t] ∧ t.length ≤ 40000 ∧ ∀ H', Ex H H' → Q (.bl true) H'
open Evl in
theorem okRight {f fI fR fW fF CT : Addr} {fd fdI fdR fdW fdF : FuncData} (F : Fun K "_law_right" "_law_right" sLawRight f fd) (m : Ms mg) (cLI : Cl P w K mg base "_law_in" 2 ["_law_text"] spLI fI fdI) (cRead : Clx P w K mg base "read" 4 ["text"] (spRead CT) fR fdR)
    (cWritten : Cl P w K mg base "written" 4 ["heaps"] spWrit fW fdW) (cLR : Cl P w K mg base "_law_refused" 5 ["_law_text"] spLR fF fdF) : FnOk P w K mg base CX0 6 f fd ["_law_text"] spRight := by
  refine F.ok scLawRight (fun vs H Q E h => ?_) (fun cdv A outer s H vs Q E hr h => ?_)
  · obtain ⟨t, rfl, _⟩ := h
    rfl
  · obtain ⟨t, rfl, hz, k⟩ := h
    have nd := scLawRight.nd
    refine ⟨_, (pss_cons (ps_set (i := 1) nd rfl (by first | exact Or.inl rfl | exact Or.inr rfl) (pe_call cLI.F (hr.mono (by decide)) (by rfl) cLI.g cLI.kp cLI.b .nil pass0 (pa_cons (pv 0) pa_nil)))
    (pss_cons (ps_if (pt_cmpR op_isN (pv 1) pe_non (nomark _))
      (pss_one (ps_ret (pe_call cLR.F (hr.mono (by decide)) (by rfl) cLR.g cLR.kp cLR.b .nil pass0 (pa_cons (pv 0) pa_nil))))
      pss_nil)
    (pss_cons (ps_set (i := 2) nd rfl (by first | exact Or.inl rfl | exact Or.inr rfl) (pe_call cRead.F (hr.mono (by decide)) (by rfl) cRead.g cRead.kp cRead.b .nil passN (pa_cons (pv 0) pa_nil)))
    (pss_cons (ps_if (PW.pt (pw_or (pt_not (pt_val (pe_callB call_isi (by rfl) m.isinstance_ (by decide +kernel) (pa_cons (pv 2) (pa_cons (pe_bltn (v := .ty "list") (by rfl) m.list_ (by decide +kernel) rfl) pa_nil))))) (pw_or (pt_cmpR (op_neD hr.units) (pv 2) (pv 1) (nomark _)) (pw_or1 (pt_cmpR op_ne (pe_call cWritten.F (hr.mono (by decide)) (by rfl) cWritten.g cWritten.kp cWritten.b .nil pass0 (pa_cons (pv 2) pa_nil)) (pv 0) (nomark _))))))
      (pss_one (ps_ret pe_bl))
      pss_nil)
    (pss_cons (ps_expr (pe_bm PySem.F.plainAttrs_list PySem.F.slot_list_append PySem.F.type_list_append mt_append (pv 2) (pa_cons (pe_tup (pa_cons pe_int (pa_cons pe_int pa_nil))) pa_nil)))
    (pss_one (ps_ret (pe_cmpR (op_eqD hr.units) (pe_call cRead.F (hr.mono (by decide)) (by rfl) cRead.g cRead.kp cRead.b .nil passN (pa_cons (pv 0) pa_nil)) (pv 1) (nomark _))))))))), ?_⟩
    cases q : readF t with
    | none =>
      refine q_asg (v := .non) (ev_call (vs := [.str t]) (ea_cons (ev_var rfl) ea_nil) fun H1 e Q k _ => ⟨t, rfl, hz, fun _ H' e' => k H' e', fun ps h => by rw [q] at h; cases h⟩) fun H1 e1 => ?_
      refine q_when (b := true) (et_isN (ev_var rfl) rfl) (fun _ H2 e2 => s_ret (ev_call (vs := [.str t]) (ea_cons (ev_var rfl) ea_nil) fun H3 e Q k _ => ⟨_, rfl, .inl ⟨t, rfl, hz, q⟩, fun H' e' => k H' e'⟩) fun H3 e3 => k H3 ((e1.trans e2).trans e3)) (fun z => nomatch z)
    | some ps =>
      obtain ⟨b1, b2, b3⟩ := read_back q
      have cnt := read_cnt q
      have nlr : ∀ {σ : L2.St} {H0 : Hp}, σ[0]? = some (some (.str t)) → NL (tCall (spRead CT) [] E0 (tCons (tVar 0) tNil)) σ H0 ps := fun {σ H0} h0 H1 e Q k =>
        ea_cons (vs := []) (ev_var h0) ea_nil H1 e _ fun H2 e2 => ⟨_, rfl, .inl ⟨t, rfl, hz, (fun qs hq p H3 np e3 hp => by
          rw [q] at hq
          injection hq with hq
          subst hq
          exact k p H3 (fresh_back e2 np) (e2.trans e3) hp), fun hn => by rw [q] at hn; cases hn⟩⟩
      refine q_asgN (qs := ps) (fun H1 e Q k => ea_cons (vs := []) (ev_var rfl) ea_nil H1 e _ fun H2 e2 => ⟨t, rfl, hz, (fun hn => by rw [q] at hn; cases hn), fun qs hq p H3 np e3 hp => by
          rw [q] at hq
          injection hq with hq
          subst hq
          exact k p H3 (fresh_back e2 np) (e2.trans e3) hp⟩) fun p H1 np e1 hp => ?_
      refine q_when (b := false) (et_isN (ev_var rfl) rfl) (fun z => nomatch z) fun _ H2 e2 => ?_
      refine q_asgN (nlr rfl) fun l H3 nl e3 hl => ?_
      have hp3 := (hp.mono e2).mono e3
      have pl : p ≠ l := fun z => by
        obtain ⟨vs, h1, _⟩ := hp.mono e2
        rw [z, nl] at h1
        cases h1
      obtain ⟨ls, hl1, hl2⟩ := id hl
      refine q_when (b := false) (et_is (et_or (a := false) (b := false) (et_is (et_not (et_B (e_isi (b := true) (ev_var rfl) ev_c (.ty _) (fun H1 e => .base (.lst (e _ _ hl1))) (kit_ty (by decide +kernel))))) rfl) fun _ =>
        et_or (a := false) (b := false) (et_is (et_test (e_neS (sl_of (ev_var rfl) hl) (sl_of (ev_var rfl) hp3))) (by simp)) fun _ =>
          et_is (et_test (e_neT (x := textF ps) (y := t) (ev_call (vs := [.ref l]) (ea_cons (ev_var rfl) ea_nil) fun H4 e Q k _ => ⟨l, ps, rfl, hl.mono e, b2, b3, by omega, fun H5 e5 => k H5 e5⟩) (ev_var rfl))) (by rw [b1]; simp)) rfl) (fun z => nomatch z) fun _ H4 e4 => ?_
      refine q_appP (hl.mono e4) (ev_var rfl) (np_pair (p := (0, 0)) ev_c ev_c) (by omega) fun H5 vs5 vs5' e5 h5 _ => ?_
      have hp5 : PL (upd H5 l (.lst vs5')) p ps := PL.upd h5 ((hp3.mono e4).mono e5) pl
      have ex5 : Ex H (upd H5 l (.lst vs5')) := Ex.mut ((((e1.trans e2).trans e3).trans e4).trans e5) (fresh_back (e1.trans e2) nl)
      exact s_ret (ev_is2 (e_eqS ((nlr rfl).sl) (sl_of (ev_var rfl) hp5)) (by simp)) fun H6 e6 => k H6 (ex5.trans e6)
end

end Sp

set_option Elab.async false
set_option linter.all false
set_option maxRecDepth 100000
set_option maxHeartbeats 1000000
namespace Sp
open PySem L2 Mth
open Evl (Ex)
section
variable {P : Program} {w : World} {K : PySem.W.Frag} {mg : Str → Option Value} {base : Heap}
/-! what the law draws -/
abbrev nLawCellAt : List Str := ["_law_script", "_law_k"]
theorem scLawCellAt : FnScope ["_law_script", "_law_k"] ["_law_script", "_law_k"] (defScope sLawCellAt) := ⟨rfl, rfl, rfl, by decide +kernel, rfl, by decide +kernel, by decide +kernel⟩
def spCellAt (K : PySem.W.Frag) : Sp := fun vs H Q _ => ∃ (a : Addr) (ns : List Int) (k : Int), vs = [.ref a, .int k] ∧ SqL K H a (ns.map V.int) ∧ 0 ≤ k ∧ Q (.int (cellF ns k)) H
theorem okCellAt {f : Addr} {fd : FuncData} (F : Fun K "_law_cell_at" "_law_cell_at" sLawCellAt f fd) (m : Ms mg) : FnOk P w K mg base CX0 1 f fd ["_law_script", "_law_k"] (spCellAt K) := by
  refine F.ok scLawCellAt (fun vs H Q E h => ?_) (fun cdv A outer s H vs Q E hr h => ?_)
  · obtain ⟨a, ns, k, rfl, _⟩ := h
    rfl
  · obtain ⟨a, ns, i, rfl, ha, h0, k⟩ := h
    refine ⟨_, (pss_cons (ps_if (pt_cmpR op_lt (pv 1) (pe_callB call_len_seq (by rfl) m.len_ PySem.boot_len (pa_cons (pv 0) pa_nil)) (nomark _))
      (pss_one (ps_ret (pe_ix (r := rIxL K) ix_list (pv 0) (pv 1) (fun _ _ => rfl))))
      pss_nil)
    (pss_one (ps_ret pe_int))), ?_⟩
    refine z_if (b := decide (i < (ns.length : Int))) (a_val (v_lt (val_var rfl) fun Q q => ⟨_, rfl, a, _, rfl, .inl ha, by rw [List.length_map]; exact q⟩)) (fun c => ?_) fun c => ?_
    · have c := of_decide_eq_true c
      obtain ⟨j, rfl⟩ : ∃ j : Nat, i = (j : Int) := ⟨i.toNat, by omega⟩
      refine z_ret (v_lstq (val_var rfl) (val_var rfl) ha (v := .int (cellF ns j)) (atI_nat ?_)) k
      unfold cellF
      rw [List.getElem?_map, Int.toNat_natCast, List.getD_eq_getElem?_getD, List.getElem?_eq_getElem (show j < ns.length by omega)]
      rfl
    · have c := of_decide_eq_false c
      have e : cellF ns i = 0 := by
        unfold cellF
        rw [List.getD_eq_getElem?_getD, List.getElem?_eq_none (by omega)]
        rfl
      rw [e] at k
      exact k
abbrev nLawDraw : List Str := ["_law_cell", "_law_k", "_law_many", "_law_primes"]
theorem scLawDraw : FnScope ["_law_cell", "_law_k", "_law_many", "_law_primes"] ["_law_cell", "_law_k", "_law_many"] (defScope sLawDraw) := ⟨rfl, rfl, rfl, by decide +kernel, rfl, by decide +kernel, by decide +kernel⟩
def spDraw : Sp := fun vs H Q _ => ∃ c k n : Int, vs = [.int c, .int k, .int n] ∧ 0 < n ∧ ∀ H', Ex H H' → Q (.int (drawF c k n)) H'
theorem okDraw {f : Addr} {fd : FuncData} (F : Fun K "_law_draw" "_law_draw" sLawDraw f fd) : FnOk P w K mg base CX0 1 f fd ["_law_cell", "_law_k", "_law_many"] spDraw := by
  refine F.ok scLawDraw (fun vs H Q E h => ?_) (fun cdv A outer s H vs Q E hr h => ?_)
  · obtain ⟨c, k, n, rfl, _⟩ := h
    rfl
  · obtain ⟨c, i, n, rfl, h0, k⟩ := h
    have nd := scLawDraw.nd
    refine ⟨_, (pss_cons (ps_set (i := 3) nd rfl (by first | exact Or.inl rfl | exact Or.inr rfl) (pe_tup (pa_cons pe_int (pa_cons pe_int (pa_cons pe_int (pa_cons pe_int (pa_cons pe_int (pa_cons pe_int (pa_cons pe_int (pa_cons pe_int (pa_cons pe_int (pa_cons pe_int (pa_cons pe_int (pa_cons pe_int (pa_cons pe_int (pa_cons pe_int (pa_cons pe_int (pa_cons pe_int pa_nil))))))))))))))))))
    (pss_one (ps_ret (pe_op op_mod (pe_op op_mod (pe_op op_add (pe_op op_mul (pv 0) pe_int) (pe_op op_mul (pv 1) pe_int)) (pe_ix (r := rIxT K) ix_tup (pv 3) (pe_op op_mod (pv 1) pe_int) (fun _ _ => rfl))) (pv 2))))), ?_⟩
    refine ⟨(by show 16 ≤ sizeLine; decide), fun t nt => ?_⟩
    obtain ⟨p, hp, p0, ep⟩ := prime_at i
    have := k (upd H t (.tup (primes.map V.int))) (Evl.Ex.new nt)
    unfold drawF at this
    rw [← ep] at this
    refine z_ret (v := .int ((c * 48271 + i * 69621) % p % n)) (v_mod (v_mod (v_add (v_mul (val_var rfl) val_c (mulR (by decide))) (v_mul (val_var rfl) val_c (mulR (by decide))))
      (v_tup (a := t) (val_var rfl) (v_mod (val_var rfl) val_c (by decide)) upd_same hp) p0) (val_var rfl) h0) ?_
    exact this
theorem ev_draw {σ : L2.St} {H : Hp} {ta : TA} {c k n : Int} (h : Evl.EvA ta σ H [.int c, .int k, .int n]) (h0 : 0 < n) : Evl.Ev (tCall spDraw [] E0 ta) σ H (.int (drawF c k n)) :=
  Evl.ev_call h fun H1 _ _ q _ => ⟨c, k, n, rfl, h0, fun H' e => q H' e⟩
theorem ev_cell {σ : L2.St} {H : Hp} {ta : TA} {a : Addr} {ns : List Int} {k : Int} (h : Evl.EvA ta σ H [.ref a, .int k]) (ha : SqL K H a (ns.map V.int)) (h0 : 0 ≤ k) : Evl.Ev (tCall (spCellAt K) [] E0 ta) σ H (.int (cellF ns k)) :=
  Evl.ev_call h fun H1 e _ q _ => ⟨a, ns, k, rfl, Evl.ex_l e ha, h0, q H1 (Evl.Ex.refl _)⟩
theorem cell_nat (ns : List Int) (i : Nat) (h : i < ns.length) : (ns.map V.int)[i]? = some (.int (cellF ns i)) := by
  unfold cellF
  rw [List.getElem?_map, Int.toNat_natCast, List.getD_eq_getElem?_getD, List.getElem?_eq_getElem h]
  rfl
abbrev nLawHeaps : List Str := ["_law_script", "_law_found", "_law_k", "_law_most", "_law_wide"]
theorem scLawHeaps : FnScope ["_law_script", "_law_found", "_law_k", "_law_most", "_law_wide"] ["_law_script"] (defScope sLawHeaps) := ⟨rfl, rfl, rfl, by decide +kernel, rfl, by decide +kernel, by decide +kernel⟩
def spHeaps (K : PySem.W.Frag) : Sp := fun vs H Q _ => ∃ (a : Addr) (ns : List Int), vs = [.ref a] ∧ SqL K H a (ns.map V.int) ∧ ns.length ≤ 63 ∧ ∀ H' l, Ex H H' → H l = none → PL H' l (heapsF ns) → Q (.ref l) H'
theorem okHeaps {f fC fD : Addr} {fd fdC fdD : FuncData} (F : Fun K "_law_heaps" "_law_heaps" sLawHeaps f fd) (cCell : Cl P w K mg base "_law_cell_at" 1 ["_law_script", "_law_k"] (spCellAt K) fC fdC) (cDraw : Cl P w K mg base "_law_draw" 1 ["_law_cell", "_law_k", "_law_many"] spDraw fD fdD) (m : Ms mg) :
    FnOk P w K mg base CX0 2 f fd ["_law_script"] (spHeaps K) := by
  refine F.ok scLawHeaps (fun vs H Q E h => ?_) (fun cdv A outer s H vs Q E hr h => ?_)
  · obtain ⟨a, ns, rfl, _⟩ := h
    rfl
  · obtain ⟨a, ns, rfl, ha, hlen, k⟩ := h
    have nd := scLawHeaps.nd
    refine ⟨_, (pss_cons (ps_set (i := 1) nd rfl (by first | exact Or.inl rfl | exact Or.inr rfl) (pe_lst pa_nil))
    (pss_cons (ps_if (pt_cmpR op_eq (pe_op op_mod (pe_callB call_len_seq (by rfl) m.len_ PySem.boot_len (pa_cons (pv 0) pa_nil)) pe_int) pe_int (nomark _))
      (pss_cons (ps_for PassesOwn.never rfl (pi_range3 (by rfl) m.range_ (pa_cons pe_int (pa_cons (pe_callB call_len_seq (by rfl) m.len_ PySem.boot_len (pa_cons (pv 0) pa_nil)) (pa_cons pe_int pa_nil)))) (pg_name (i := 2) nd rfl (by first | exact Or.inl rfl | exact Or.inr rfl))
        (pss_one (ps_expr (pe_bm PySem.F.plainAttrs_list PySem.F.slot_list_append PySem.F.type_list_append mt_append (pv 1) (pa_cons (pe_tup (pa_cons (pe_op op_mulW (pe_op op_mod (pe_op op_fdiv (pe_ix (r := rIxL K) ix_list (pv 0) (pv 2) (fun _ _ => rfl)) pe_int) (pe_op op_pow pe_int pe_int)) (pe_op op_sub pe_int (pe_op op_mul (pe_op op_mod (pe_ix (r := rIxL K) ix_list (pv 0) (pv 2) (fun _ _ => rfl)) pe_int) pe_int))) (pa_cons (pe_op op_mod (pe_ix (r := rIxL K) ix_list (pv 0) (pe_op op_add (pv 2) pe_int) (fun _ _ => rfl)) (pe_op op_pow pe_int pe_int)) pa_nil))) pa_nil)))))
      (pss_one (ps_ret (pv 1))))
      pss_nil)
    (pss_cons (ps_set (i := 3) nd rfl (by first | exact Or.inl rfl | exact Or.inr rfl) (pe_ix (r := rIxT K) ix_tup (pe_tup (pa_cons pe_int (pa_cons pe_int (pa_cons pe_int (pa_cons pe_int pa_nil))))) (pe_call cDraw.F (hr.mono (by decide)) (by rfl) cDraw.g cDraw.kp cDraw.b .nil pass0 (pa_cons (pe_call cCell.F (hr.mono (by decide)) (by rfl) cCell.g cCell.kp cCell.b .nil pass0 (pa_cons (pv 0) (pa_cons pe_int pa_nil))) (pa_cons pe_int (pa_cons pe_int pa_nil)))) (fun _ _ => rfl)))
    (pss_cons (ps_set (i := 4) nd rfl (by first | exact Or.inl rfl | exact Or.inr rfl) (pe_ix (r := rIxT K) ix_tup (pe_tup (pa_cons pe_int (pa_cons pe_int (pa_cons pe_int (pa_cons pe_int pa_nil))))) (pe_call cDraw.F (hr.mono (by decide)) (by rfl) cDraw.g cDraw.kp cDraw.b .nil pass0 (pa_cons (pe_call cCell.F (hr.mono (by decide)) (by rfl) cCell.g cCell.kp cCell.b .nil pass0 (pa_cons (pv 0) (pa_cons pe_int pa_nil))) (pa_cons pe_int (pa_cons pe_int pa_nil)))) (fun _ _ => rfl)))
    (pss_cons (ps_for PassesOwn.never rfl (pi_range1 (by rfl) m.range_ (pa_cons (pe_callB call_len_seq (by rfl) m.len_ PySem.boot_len (pa_cons (pv 0) pa_nil)) pa_nil)) (pg_name (i := 2) nd rfl (by first | exact Or.inl rfl | exact Or.inr rfl))
      (pss_one (ps_expr (pe_bm PySem.F.plainAttrs_list PySem.F.slot_list_append PySem.F.type_list_append mt_append (pv 1) (pa_cons (pe_tup (pa_cons (pe_op op_sub (pe_call cDraw.F (hr.mono (by decide)) (by rfl) cDraw.g cDraw.kp cDraw.b .nil pass0 (pa_cons (pe_ix (r := rIxL K) ix_list (pv 0) (pv 2) (fun _ _ => rfl)) (pa_cons (pe_op op_add (pe_op op_mod (pv 2) pe_int) pe_int) (pa_cons (pv 4) pa_nil)))) (pe_op op_fdiv (pv 4) pe_int)) (pa_cons (pe_call cDraw.F (hr.mono (by decide)) (by rfl) cDraw.g cDraw.kp cDraw.b .nil pass0 (pa_cons (pe_ix (r := rIxL K) ix_list (pv 0) (pv 2) (fun _ _ => rfl)) (pa_cons (pe_op op_add (pe_op op_mod (pv 2) pe_int) pe_int) (pa_cons (pv 3) pa_nil)))) pa_nil))) pa_nil)))))
    (pss_one (ps_ret (pv 1)))))))), ?_⟩
    refine ⟨Nat.zero_le _, fun l nl => ?_⟩
    have e0 : Ex H (upd H l (.lst [])) := Evl.Ex.new nl
    have ha0 := Evl.ex_l e0 ha
    have hl0 : (ns.map V.int).length = ns.length := List.length_map ..
    refine z_if (b := decide (((ns.length : Nat) : Int) % 2 = 0)) (a_val (v_is (v_eqi (v_mod (v_len (val_var rfl) ha0) val_c (by decide)) val_c) (by rw [hl0]))) (fun c => ?_) fun c => ?_
    · have c : ns.length % 2 = 0 := by have := of_decide_eq_true c; omega
      have eF : heapsF ns = (List.range (ns.length / 2)).map (evenH ns) := by unfold heapsF; rw [if_pos c]
      rw [eF] at k
      refine ⟨_, rfl, a, _, rfl, .inl ha0, 0, (ns.length : Int), 2, ns.length / 2, (by rw [hl0]), ⟨by decide, by decide, ?_, ?_⟩, for_rangeC (lo := 0) (c := 2) (n := ns.length / 2)
        (fun i σ H' => ∃ o2 o3 o4, σ = [some (.ref a), some (.ref l), o2, o3, o4] ∧ Ex H H' ∧ PL H' l ((List.range i).map (evenH ns))) ⟨none, none, none, rfl, e0, [], upd_same, .nil⟩ ?_ ?_⟩
      · have fits : ∀ i : Int, -100 ≤ i → i ≤ 100 → Builtin.Range.rangeFitsLong i = true := fun i h1 h2 => by
          unfold Builtin.Range.rangeFitsLong
          rw [Bool.and_eq_true, decide_eq_true_eq, decide_eq_true_eq]
          omega
        unfold Builtin.Range.small
        rw [PyProof.Rows.rangeSize_pos (by decide) (by omega), fits 0 (by decide) (by decide), fits (ns.length : Int) (by omega) (by omega), fits 2 (by decide) (by decide), fits (((ns.length : Int) + 2 - 1) / 2) (by omega) (by omega), if_pos (by decide), fits ((ns.length : Int) + (2 - 1)) (by omega) (by omega)]
        rw [Bool.or_true]
        rfl
      · rw [PyProof.Rows.rangeSize_pos (by decide) (by omega)]
        omega
      · rintro i σ H' hi ⟨o2, o3, o4, rfl, e, vs, hl, ht⟩
        have ha1 := Evl.ex_l e ha
        have h2i : 2 * i + 1 < ns.length := by omega
        have ei : (0 : Int) + ((i : Nat) : Int) * 2 = ((2 * i : Nat) : Int) := by omega
        have ei1 : ((2 * i : Nat) : Int) + 1 = ((2 * i + 1 : Nat) : Int) := by omega
        have lv := pr_len ht
        rw [List.length_map, List.length_range] at lv
        show tDrop _ _ ([some (.ref a), some (.ref l), some (.int ((0 : Int) + ((i : Nat) : Int) * 2)), o3, o4]) H'
        rw [ei]
        have c1 : ∀ H2, Ex H' H2 → Evl.Ev (tOp (rIxL K) (tVar 0) (tVar 2)) [some (.ref a), some (.ref l), some (.int ((2 * i : Nat) : Int)), o3, o4] H2 (.int (cellF ns ((2 * i : Nat) : Int))) := fun H2 e2 =>
          Evl.ev_op (Evl.ev_var rfl) (Evl.ev_var rfl) (Evl.rv_ixL (Evl.ex_l e2 ha1) (atI_nat (cell_nat ns _ (by omega))))
        have c2 : ∀ H2, Ex H' H2 → Evl.Ev (tOp (rIxL K) (tVar 0) (tOp (rI0 fun i j => V.int (i + j)) (tVar 2) (tC (.int 1)))) [some (.ref a), some (.ref l), some (.int ((2 * i : Nat) : Int)), o3, o4] H2 (.int (cellF ns ((2 * i + 1 : Nat) : Int))) := fun H2 e2 =>
          Evl.ev_op (Evl.ev_var rfl) (e_add (Evl.ev_var rfl) Evl.ev_c) (Evl.rv_ixL (Evl.ex_l e2 ha1) (by rw [ei1]; exact atI_nat (cell_nat ns _ (by omega))))
        have r0 := Evl.Ex.refl H'
        obtain ⟨q1, q2, q3⟩ := evenH_ok ns i
        refine ⟨_, rfl, .inl ⟨rfl, _, SqL.of hl⟩, ?_⟩
        refine np_pair (p := evenH ns i) (ev_is2 (e_mulW (e_mod (e_div (c1 H' r0) Evl.ev_c ⟨by decide, by decide⟩) (e_pow Evl.ev_c Evl.ev_c ⟨by decide, by decide, by decide⟩) (by decide))
            (e_sub Evl.ev_c (e_mul (e_mod (c1 H' r0) Evl.ev_c (by decide)) Evl.ev_c (mulR (by decide)))) ?_) ?_)
          (ev_is2 (e_mod (c2 H' r0) (e_pow Evl.ev_c Evl.ev_c ⟨by decide, by decide, by decide⟩) (by decide)) ?_) H' r0 _ fun v H2 e2 tv => ?_
        · refine Bd.mulw (a := 200) (b := 200) ?_ ?_ (by decide) (by decide) (by decide)
          · have p0 : (0 : Int) < 10 ^ 40 := by decide
            have b1 := Int.emod_nonneg (cellF ns ((2 * i : Nat) : Int) / 2) (show (10 : Int) ^ 40 ≠ 0 by decide)
            have b2 := Int.emod_lt_of_pos (cellF ns ((2 * i : Nat) : Int) / 2) p0
            show (cellF ns ((2 * i : Nat) : Int) / 2 % (10 ^ 40)).natAbs < 2 ^ 200
            rw [two200]
            rw [ten40] at b1 b2 ⊢
            omega
          · show (1 - cellF ns ((2 * i : Nat) : Int) % 2 * 2).natAbs < 2 ^ 200
            rw [two200]
            omega
        · rfl
        · rfl
        · refine ⟨l, vs, v, rfl, rfl, e2 _ _ hl, Nat.lt_of_le_of_lt (show vs.length ≤ 63 by omega) (by decide), ?_⟩
          refine ⟨_, _, _, rfl, Evl.Ex.mut (e.trans e2) nl, vs ++ [v], upd_same, ?_⟩
          rw [List.range_succ, List.map_append]
          exact pr_app ((ht.mono e2).upd (e2 _ _ hl)) (.cons (tv.upd (e2 _ _ hl)) .nil)
      · rintro σ H' ⟨o2, o3, o4, rfl, e, hl⟩
        exact ⟨_, rfl, k H' l e nl hl⟩
    · have c : ¬ ns.length % 2 = 0 := by have := of_decide_eq_false c; omega
      have eF : heapsF ns = (List.range ns.length).map (oddH ns) := by unfold heapsF; rw [if_neg c]
      rw [eF] at k
      have n0 : 0 < ns.length := by omega
      obtain ⟨w1, w2⟩ := wide4_pos (drawF_lo (c := cellF ns 1) (k := 7) (m := 4) (by decide)) (drawF_hi (by decide))
      obtain ⟨m1, m2⟩ := most4_pos (drawF_lo (c := cellF ns 0) (k := 6) (m := 4) (by decide)) (drawF_hi (by decide))
      -- most, wide
      refine ⟨(by show 4 ≤ sizeLine; decide), fun t nt => ?_⟩
      have e1 : Ex H _ := e0.trans (Evl.Ex.new (o := .tup [.int 3, .int 20, .int 1000000, .int 5]) nt)
      refine ev_draw (Evl.ea_cons (ev_cell (Evl.ea_cons (Evl.ev_var rfl) (Evl.ea_cons Evl.ev_c Evl.ea_nil)) (Evl.ex_l e1 ha) (by decide)) (Evl.ea_cons Evl.ev_c (Evl.ea_cons Evl.ev_c Evl.ea_nil))) (by decide) _ (Evl.Ex.refl _) _ fun H2 e2 => ?_
      refine ⟨t, _, _, .int (most4 (drawF (cellF ns 0) 6 4)), rfl, rfl, SqT.of (e2 _ _ upd_same), four_at [3, 20, 1000000, 5] rfl (drawF_lo (by decide)) (drawF_hi (by decide)), ?_⟩
      refine ⟨(by show 4 ≤ sizeLine; decide), fun t2 nt2 => ?_⟩
      have e3 : Ex H _ := (e1.trans e2).trans (Evl.Ex.new (o := .tup [.int 5, .int 60, .int 1000000, .int 9]) nt2)
      refine ev_draw (Evl.ea_cons (ev_cell (Evl.ea_cons (Evl.ev_var rfl) (Evl.ea_cons Evl.ev_c Evl.ea_nil)) (Evl.ex_l e3 ha) (by decide)) (Evl.ea_cons Evl.ev_c (Evl.ea_cons Evl.ev_c Evl.ea_nil))) (by decide) _ (Evl.Ex.refl _) _ fun H4 e4 => ?_
      refine ⟨t2, _, _, .int (wide4 (drawF (cellF ns 1) 7 4)), rfl, rfl, SqT.of (e4 _ _ upd_same), four_at [5, 60, 1000000, 9] rfl (drawF_lo (by decide)) (drawF_hi (by decide)), ?_⟩
      have e5 : Ex H H4 := e3.trans e4
      have hl4 : H4 l = some (.lst []) := e4 _ _ ((Evl.Ex.new nt2) _ _ (e2 _ _ ((Evl.Ex.new nt) _ _ upd_same)))
      generalize hw : wide4 (drawF (cellF ns 1) 7 4) = wd at *
      generalize hm : most4 (drawF (cellF ns 0) 6 4) = ms at *
      refine ⟨_, rfl, a, _, rfl, .inl (Evl.ex_l e5 ha), (ns.length : Int), (by rw [hl0]), by omega, by omega, for_range (lo := 0) (n := ns.length)
        (fun i σ H' => ∃ o2, σ = [some (.ref a), some (.ref l), o2, some (.int ms), some (.int wd)] ∧ Ex H H' ∧ PL H' l ((List.range i).map (oddH ns))) ⟨none, rfl, e5, [], hl4, .nil⟩ ?_ ?_⟩
      · rintro i σ H' hi ⟨o2, rfl, e, vs, hl, ht⟩
        have ha1 := Evl.ex_l e ha
        have lv := pr_len ht
        rw [List.length_map, List.length_range] at lv
        have ei : (0 : Int) + ((i : Nat) : Int) = (i : Int) := by omega
        show tDrop _ _ ([some (.ref a), some (.ref l), some (.int ((0 : Int) + ((i : Nat) : Int))), some (.int ms), some (.int wd)]) H'
        rw [ei]
        have r0 := Evl.Ex.refl H'
        have c1 : Evl.Ev (tOp (rIxL K) (tVar 0) (tVar 2)) [some (.ref a), some (.ref l), some (.int ((i : Nat) : Int)), some (.int ms), some (.int wd)] H' (.int (cellF ns ((i : Nat) : Int))) :=
          Evl.ev_op (Evl.ev_var rfl) (Evl.ev_var rfl) (Evl.rv_ixL ha1 (atI_nat (cell_nat ns _ hi)))
        refine ⟨_, rfl, .inl ⟨rfl, _, SqL.of hl⟩, ?_⟩
        refine np_pair (p := oddH ns i) (ev_is2 (e_sub (ev_draw (Evl.ea_cons c1 (Evl.ea_cons (e_add (e_mod (Evl.ev_var rfl) Evl.ev_c (by decide)) Evl.ev_c) (Evl.ea_cons (Evl.ev_var rfl) Evl.ea_nil))) w1) (e_div (Evl.ev_var rfl) Evl.ev_c ⟨by decide, by decide⟩)) ?_)
          (ev_is2 (ev_draw (Evl.ea_cons c1 (Evl.ea_cons (e_add (e_mod (Evl.ev_var rfl) Evl.ev_c (by decide)) Evl.ev_c) (Evl.ea_cons (Evl.ev_var rfl) Evl.ea_nil))) m1) ?_) H' r0 _ fun v H2 e2 tv => ?_
        · unfold oddH; rw [hw]
        · unfold oddH; rw [hm]
        · refine ⟨l, vs, v, rfl, rfl, e2 _ _ hl, Nat.lt_of_le_of_lt (show vs.length ≤ 63 by omega) (by decide), ?_⟩
          refine ⟨_, rfl, Evl.Ex.mut (e.trans e2) nl, vs ++ [v], upd_same, ?_⟩
          rw [List.range_succ, List.map_append]
          exact pr_app ((ht.mono e2).upd (e2 _ _ hl)) (.cons (tv.upd (e2 _ _ hl)) .nil)
      · rintro σ H' ⟨o2, rfl, e, hl⟩
        exact ⟨_, rfl, k H' l e nl hl⟩
end

end Sp

set_option Elab.async false
set_option linter.all false
set_option maxRecDepth 100000
set_option maxHeartbeats 1000000
namespace Sp
open PySem L2 Mth
open Evl (Ex)
/-! ### the law -/
def spLaw (K : PySem.W.Frag) : Sp := fun vs H Q _ => ∃ (a : Addr) (ns : List Int), vs = [.ref a] ∧ SqL K H a (ns.map V.int) ∧ ns.length ≤ 63 ∧ ∀ H', Q (.bl true) H'
theorem join_len (y : Str) : ∀ ys : List Str, (Str.join y ys).length ≤ (ys.map fun x => x.length).sum + ys.length * y.length
  | [] => Nat.zero_le _
  | [x] => by
    show x.length ≤ _
    simp
  | x :: z :: r => by
    have := join_len y (z :: r)
    show (x ++ y ++ Str.join y (z :: r)).length ≤ _
    rw [str_len_app, str_len_app]
    simp only [List.map_cons, List.sum_cons, List.length_cons, Nat.succ_mul] at this ⊢
    omega
theorem text_len {ps : List P2} (h : ps.all fit60 = true) (hl : ps.length ≤ 63) : (textF ps).length ≤ 8000 := by
  unfold textF
  split
  · decide +kernel
  · rw [TL.join_eq]
    have a := join_len (Str.ofString " ") (ps.map wordT)
    have b := words_len h
    rw [List.length_map, len_blank] at a
    omega
theorem heaps_fit (ns : List Int) : (heapsF ns).all fit60 = true := by
  rw [List.all_eq_true]
  intro q hq
  obtain ⟨h1, h2, h3⟩ := heapsF_40 ns q hq
  have t40 : (10 : Int) ^ 40 = ((10 ^ 40 : Nat) : Int) := by decide
  have le : (10 : Nat) ^ 40 ≤ 10 ^ 60 := by decide
  unfold fit60
  rw [decide_eq_true (by omega), decide_eq_true (by rw [t40] at h2; omega)]
  rfl
section
open Evl
variable {K : PySem.W.Frag} {σ : L2.St} {H : Hp} {ta tb : TE} {tq : TA} {xs : List V} {v : V} {i : Int} {t : Str}
theorem ev_ixU (ha : EvU ta σ H xs) (hb : Ev tb σ H (.int i)) (hi : atI xs i = some v) : Ev (tOp (rIxT K) ta tb) σ H v := fun H1 e Q q =>
  ha H1 e _ fun p H2 _ e2 hp => hb H2 (e.trans e2) _ fun H3 e3 => ⟨p, xs, i, v, rfl, rfl, SqT.of (e3 _ _ hp), hi, q H3 (e2.trans e3)⟩
theorem ev_right (h : EvA tq σ H [.str t]) (hz : t.length ≤ 40000) : Ev (tCall spRight [] E0 tq) σ H (.bl true) := ev_call h fun H1 e _ q _ => ⟨t, rfl, hz, fun H2 e2 => q H2 e2⟩
end
theorem two_at {x y : Str} (hx : x.length ≤ 1) (hy : y.length ≤ 1) {i : Int} (h0 : 0 ≤ i) (h2 : i < 2) : ∃ z : Str, z.length ≤ 1 ∧ atI [V.str x, V.str y] i = some (.str z) := by
  have : i = 0 ∨ i = 1 := by omega
  rcases this with rfl | rfl
  · exact ⟨x, hx, atI_nat (j := 0) rfl⟩
  · exact ⟨y, hy, atI_nat (j := 1) rfl⟩
section
variable {P : Program} {w : World} {K : PySem.W.Frag} {mg : Str → Option Value} {base : Heap}
abbrev nLaw : List Str := ["_law_script", "_law_heaps_here", "_law_text", "_law_place", "_law_count", "_law_handed", "_law_cell", "_law_k", "_law_at", "_law_sign", "_law_other", "_law_thing"]
theorem scLaw : FnScope ["_law_script", "_law_heaps_here", "_law_text", "_law_place", "_law_count", "_law_handed", "_law_cell", "_law_k", "_law_at", "_law_sign", "_law_other", "_law_thing"] ["_law_script"] (defScope sLaw) := ⟨rfl, rfl, rfl, by decide +kernel, rfl, by decide +kernel, by decide +kernel⟩
open Evl in
theorem okLaw {f fC fD fH fW fR fF fL : Addr} {fd fdC fdD fdH fdW fdR fdF fdL : FuncData} (F : Fun K "law" "law" sLaw f fd) (m : Ms mg) (cCell : Cl P w K mg base "_law_cell_at" 1 ["_law_script", "_law_k"] (spCellAt K) fC fdC) (cDraw : Cl P w K mg base "_law_draw" 1 ["_law_cell", "_law_k", "_law_many"] spDraw fD fdD)
    (cHeaps : Cl P w K mg base "_law_heaps" 2 ["_law_script"] (spHeaps K) fH fdH) (cWritten : Cl P w K mg base "written" 4 ["heaps"] spWrit fW fdW) (cRight : Cl P w K mg base "_law_right" 6 ["_law_text"] spRight fR fdR) (cFew : Cl P w K mg base "_law_few" 1 [] spFew fF fdF)
    (cLR : Cl P w K mg base "_law_refused" 5 ["_law_text"] spLR fL fdL) : FnOk P w K mg base CX0 7 f fd ["_law_script"] (spLaw K) := by
  refine F.ok scLaw (fun vs H Q E h => ?_) (fun cdv A outer s H vs Q E hr h => ?_)
  · obtain ⟨a, ns, rfl, _⟩ := h
    rfl
  · obtain ⟨a, ns, rfl, ha, hlen, k⟩ := h
    have nd := scLaw.nd
    refine ⟨_, (pss_cons (ps_set (i := 1) nd rfl (by first | exact Or.inl rfl | exact Or.inr rfl) (pe_call cHeaps.F (hr.mono (by decide)) (by rfl) cHeaps.g cHeaps.kp cHeaps.b .nil pass0 (pa_cons (pv 0) pa_nil)))
    (pss_cons (ps_set (i := 2) nd rfl (by first | exact Or.inl rfl | exact Or.inr rfl) (pe_ifExp (pt_cmpR (op_neD hr.units) (pv 1) (pe_lst pa_nil) (nomark _)) (pe_join pe_str (pe_lc (own := [("_law_place", 3), ("_law_count", 4)]) (g := (gTup K 2 (gCons (gName 3) (gCons (gName 4) gNil)))) rfl nd (pi_list (pv 1)) (blkOk_by (own := [("_law_place", 3), ("_law_count", 4)]) (N := nLaw) (sc := defScope sLaw) (by decide +kernel)) (fun _ _ _ _ _ => (pg_tup (by rfl) (pgs_cons (pg_name (i := 3) nd rfl (by first | exact Or.inl rfl | exact Or.inr rfl)) (pgs_cons (pg_name (i := 4) nd rfl (by first | exact Or.inl rfl | exact Or.inr rfl)) pgs_nil)))) (fun _ _ _ _ _ => pts_nil) (fun _ _ _ _ _ => (pe_op op_add_str (pe_op op_add_str (pe_callTy call_str_int (by rfl) m.str_ (by decide +kernel) (pa_cons (pv 3) pa_nil)) pe_str) (pe_callTy call_str_int (by rfl) m.str_ (by decide +kernel) (pa_cons (pv 4) pa_nil)))))) pe_str))
    (pss_cons (ps_set (i := 5) nd rfl (by first | exact Or.inl rfl | exact Or.inr rfl) (pe_callTy call_list_of (by rfl) m.list_ (by decide +kernel) (pa_cons (pv 1) pa_nil)))
    (pss_cons (ps_if (PW.pt (pw_or (pt_cmpR op_ne (pe_call cWritten.F (hr.mono (by decide)) (by rfl) cWritten.g cWritten.kp cWritten.b .nil pass0 (pa_cons (pv 5) pa_nil)) (pv 2) (nomark _)) (pw_or (pt_cmpR (op_neD hr.units) (pv 5) (pv 1) (nomark _)) (pw_or1 (pt_not (pt_val (pe_call cRight.F (hr.mono (by decide)) (by rfl) cRight.g cRight.kp cRight.b .nil pass0 (pa_cons (pv 2) pa_nil))))))))
      (pss_one (ps_ret pe_bl))
      pss_nil)
    (pss_cons (ps_set (i := 6) nd rfl (by first | exact Or.inl rfl | exact Or.inr rfl) (pe_op op_add (pe_call cCell.F (hr.mono (by decide)) (by rfl) cCell.g cCell.kp cCell.b .nil pass0 (pa_cons (pv 0) (pa_cons pe_int pa_nil))) (pe_op op_mul pe_int (pe_call cCell.F (hr.mono (by decide)) (by rfl) cCell.g cCell.kp cCell.b .nil pass0 (pa_cons (pv 0) (pa_cons pe_int pa_nil))))))
    (pss_cons (ps_for PassesOwn.never rfl (pi_range1 (by rfl) m.range_ (pa_cons pe_int pa_nil)) (pg_name (i := 7) nd rfl (by first | exact Or.inl rfl | exact Or.inr rfl))
      (pss_cons (ps_set (i := 8) nd rfl (by first | exact Or.inl rfl | exact Or.inr rfl) (pe_call cDraw.F (hr.mono (by decide)) (by rfl) cDraw.g cDraw.kp cDraw.b .nil pass0 (pa_cons (pe_op op_add (pv 6) (pv 7)) (pa_cons pe_int (pa_cons (pe_op op_add (pe_callB call_len_str (by rfl) m.len_ PySem.boot_len (pa_cons (pv 2) pa_nil)) pe_int) pa_nil)))))
      (pss_cons (ps_set (i := 9) nd rfl (by first | exact Or.inl rfl | exact Or.inr rfl) (pe_ix (r := rIxT K) ix_tup (pe_tup (pa_cons pe_str (pa_cons (pe_ix (r := rIxS) ix_str pe_str (pe_call cDraw.F (hr.mono (by decide)) (by rfl) cDraw.g cDraw.kp cDraw.b .nil pass0 (pa_cons (pe_op op_add (pv 6) (pv 7)) (pa_cons pe_int (pa_cons pe_int pa_nil)))) (fun _ _ => rfl)) pa_nil))) (pe_call cDraw.F (hr.mono (by decide)) (by rfl) cDraw.g cDraw.kp cDraw.b .nil pass0 (pa_cons (pe_op op_add (pv 6) (pv 7)) (pa_cons pe_int (pa_cons pe_int pa_nil)))) (fun _ _ => rfl)))
      (pss_one (ps_if (pt_not (pt_val (pe_call cRight.F (hr.mono (by decide)) (by rfl) cRight.g cRight.kp cRight.b .nil pass0 (pa_cons (pe_op op_add_str (pe_op op_add_str (pe_slice sl_str (pv 2) po_none (po_some (pv 8))) (pv 9)) (pe_slice sl_str (pv 2) (po_some (pe_op op_add (pv 8) (pe_call cDraw.F (hr.mono (by decide)) (by rfl) cDraw.g cDraw.kp cDraw.b .nil pass0 (pa_cons (pe_op op_add (pv 6) (pv 7)) (pa_cons pe_int (pa_cons pe_int pa_nil)))))) po_none)) pa_nil))))
        (pss_one (ps_ret pe_bl))
        pss_nil)))))
    (pss_cons (ps_if (pt_not (pt_val (pe_callB (cr_all rfl) (by rfl) m.all_ (by decide +kernel) (pa_cons (pe_lc (own := [("_law_other", 10)]) (g := (gName 10)) rfl nd (pi_list (pe_call0 cFew.F (hr.mono (by decide)) (by rfl) cFew.g cFew.kp cFew.b .nil pass0)) (blkOk_by (own := [("_law_other", 10)]) (N := nLaw) (sc := defScope sLaw) (by decide +kernel)) (fun _ _ _ _ _ => (pg_name (i := 10) nd rfl (by first | exact Or.inl rfl | exact Or.inr rfl))) (fun _ _ _ _ _ => pts_nil) (fun _ _ _ _ _ => (pe_call cRight.F (hr.mono (by decide)) (by rfl) cRight.g cRight.kp cRight.b .nil pass0 (pa_cons (pv 10) pa_nil)))) pa_nil))))
      (pss_one (ps_ret pe_bl))
      pss_nil)
    (pss_one (ps_ret (pe_callB (cr_all rfl) (by rfl) m.all_ (by decide +kernel) (pa_cons (pe_lc (own := [("_law_thing", 11)]) (g := (gName 11)) rfl nd (pi_list (pe_lst (pa_cons pe_non (pa_cons pe_int (pa_cons (pe_lst (pa_cons pe_str pa_nil)) (pa_cons pe_bl pa_nil)))))) (blkOk_by (own := [("_law_thing", 11)]) (N := nLaw) (sc := defScope sLaw) (by decide +kernel)) (fun _ _ _ _ _ => (pg_name (i := 11) nd rfl (by first | exact Or.inl rfl | exact Or.inr rfl))) (fun _ _ _ _ _ => pts_nil) (fun _ _ _ _ _ => (pe_call cLR.F (hr.mono (by decide)) (by rfl) cLR.g cLR.kp cLR.b .nil pass0 (pa_cons (pv 11) pa_nil)))) pa_nil))))))))))), ?_⟩
    refine ⟨_, rfl, a, ns, rfl, ha, hlen, fun H1 hp e1 nhp hhp => ?_⟩
    have len := Nat.le_trans (heapsF_len ns) hlen
    have fit := heaps_fit ns
    have ok : Ok (heapsF ns) := fun q hq => (heapsF_40 ns q hq).1
    generalize heapsF ns = hs at hhp len fit ok
    have tz := text_len fit len
    have lb := len_blank
    have wl := words_len fit
    refine q_asg (v := .str (textF hs)) (ev_if (b := !decide (hs = [])) (et_test (e_neS (sl_of (ev_var rfl) hhp) (nl_lst na_nil (by simp)).sl)) (fun c => ?_) fun c => ?_) fun H2 e2 => ?_
    · have c : hs ≠ [] := by simpa using c
      refine ev_is2 (e_joinT (K := K) (ys := hs.map wordT) ev_c (el_is (lcP_all (K := K) (g := fun q => .str (wordT q)) (fun _ _ => rfl) (sl_of (ev_var rfl) hhp) (by omega) (fun q hq H4 e4 => ?_)) (by rw [List.map_map]; rfl)) (by rw [lb, List.length_map]; omega)) (by unfold textF; rw [if_neg c])
      obtain ⟨f1, f2⟩ := fit_60 (List.all_eq_true.mp fit q hq)
      have l1 := len_60 f1
      have l2 := len_60 f2
      have lc := len_colon
      exact e_addT (e_addT (e_str (ev_var rfl) (log_60 f1)) ev_c (by omega)) (e_str (ev_var rfl) (log_60 f2)) (by rw [str_len_app]; omega)
    · have c : hs = [] := by simpa using c
      exact ev_is2 ev_c (by rw [c]; rfl)
    · have hhp2 := hhp.mono e2
      refine q_asgN (nl_list (ev_var rfl) hhp2) fun hd H3 nhd e3 hhd => ?_
      have hhp3 := hhp2.mono e3
      refine q_when (b := false) (et_is (et_or (a := false) (b := false) (et_is (et_test (e_neT (x := textF hs) (y := textF hs) (ev_call (vs := [.ref hd]) (ea_cons (ev_var rfl) ea_nil) fun H4 e Q k _ => ⟨hd, hs, rfl, hhd.mono e, ok, fit, by omega, fun H5 e5 => k H5 e5⟩) (ev_var rfl))) (by simp)) fun _ =>
        et_or (a := false) (b := false) (et_is (et_test (e_neS (sl_of (ev_var rfl) hhd) (sl_of (ev_var rfl) hhp3))) (by simp)) fun _ => et_is (et_not (et_B (ev_right (ea_cons (ev_var rfl) ea_nil) (by omega)))) rfl) rfl) (fun z => nomatch z) fun _ H4 e4 => ?_
      have ha4 := Evl.ex_l (((e1.trans e2).trans e3).trans e4) ha
      refine q_asg (e_add (ev_cell (ea_cons (ev_var rfl) (ea_cons ev_c ea_nil)) ha4 (by decide)) (e_mul ev_c (ev_cell (ea_cons (ev_var rfl) (ea_cons ev_c ea_nil)) ha4 (by decide)) (mulL (by decide)))) fun H5 e5 => ?_
      generalize cellF ns 3 + 7 * cellF ns 0 = cell
      refine q_forR1 (n := 2) (ea_cons ev_c ea_nil) ⟨by decide, by decide⟩ (fun i σ' H' => ∃ o7 o8 o9, σ' = [some (.ref a), some (.ref hp), some (.str (textF hs)), none, none, some (.ref hd), some (.int cell), o7, o8, o9, none, none]) (fun _ _ => ⟨_, _, _, rfl⟩) (fun i σ' H6 hi hP => ?_) fun σ' H6 hP => ?_
      · obtain ⟨o7, o8, o9, rfl⟩ := hP
        show tSeq _ _ _ ([some (.ref a), some (.ref hp), some (.str (textF hs)), none, none, some (.ref hd), some (.int cell), some (.int (i : Int)), o8, o9, none, none]) H6
        refine q_asg (ev_draw (ea_cons (e_add (ev_var rfl) (ev_var rfl)) (ea_cons ev_c (ea_cons (e_add (e_lenT (ev_var rfl) (by omega)) ev_c) ea_nil))) (by omega)) fun H7 e7 => ?_
        generalize drawF (cell + (i : Int)) 1 (((textF hs).length : Int) + 1) = at_
        obtain ⟨sign, _, hsign⟩ := atI_ex (Str.ofString "0123456789: -x\n").cps.toList (i := drawF (cell + (i : Int)) 2 15) (drawF_lo (by decide)) (Int.lt_of_lt_of_le (drawF_hi (by decide)) (by decide +kernel))
        obtain ⟨sg, sl, hsg⟩ := two_at (x := Str.ofString "") (y := ⟨#[sign]⟩) (by decide +kernel) (Nat.le_refl 1) (i := drawF (cell + (i : Int)) 3 2) (drawF_lo (by decide)) (drawF_hi (by decide))
        refine q_asg (ev_ixU (eu_tup (ea_cons ev_c (ea_cons (ev_op ev_c (ev_draw (ea_cons (e_add (ev_var rfl) (ev_var rfl)) (ea_cons ev_c (ea_cons ev_c ea_nil))) (by decide)) (rv_ixS (by decide +kernel) hsign)) ea_nil)) (by simp)) (ev_draw (ea_cons (e_add (ev_var rfl) (ev_var rfl)) (ea_cons ev_c (ea_cons ev_c ea_nil))) (by decide)) hsg) fun H8 e8 => ?_
        have k1 := cutS_length (textF hs) none (some at_)
        have k2 := cutS_length (textF hs) (some (at_ + drawF (cell + (i : Int)) 4 2)) none
        refine s_when (b := false) (et_is (et_not (et_B (ev_right (t := cutS (textF hs) none (some at_) ++ sg ++ cutS (textF hs) (some (at_ + drawF (cell + (i : Int)) 4 2)) none) (ea_cons (e_addT (e_addT (e_cutS (ev_var rfl) eo_none (eo_some (ev_var rfl)) (by omega)) (ev_var rfl) (by omega))
          (e_cutS (ev_var rfl) (eo_some (e_add (ev_var rfl) (ev_draw (ea_cons (e_add (ev_var rfl) (ev_var rfl)) (ea_cons ev_c (ea_cons ev_c ea_nil))) (by decide)))) eo_none (by omega)) (by rw [str_len_app]; omega)) ea_nil) (by rw [str_len_app, str_len_app]; omega)))) rfl) (fun z => nomatch z) fun _ H9 e9 => ⟨_, _, _, rfl⟩
      · obtain ⟨o7, o8, o9, rfl⟩ := hP
        refine q_when (b := false) (et_is (et_not (et_B (ev_is2 (e_all (K := K) (bs := List.replicate 39 true) (el_each (K := K) (R := Short 40000) (n := 39) (short_stays 40000) (fun _ => rfl) (fun H1 e Q k => ⟨rfl, fun p H' us np e' hp hl hs => k p H' us np e' hp hl hs⟩) (by decide) fun v H1 e1 hv => ?_)) (by rw [all_true])))) rfl) (fun z => nomatch z) fun _ H7 e7 => ?_
        · obtain ⟨u, rfl, hu⟩ := hv
          exact ev_right (ea_cons (ev_var rfl) ea_nil) hu
        · refine s_ret (ev_is2 (e_all (K := K) (bs := List.replicate 4 true) (el_each (K := K) (R := NoS) (n := 4) noS_stays (fun _ => rfl) (ls_lst noS_stays (sa_cons noS_stays (s1_ev ev_c fun _ _ => .non) (sa_cons noS_stays (s1_ev ev_c fun _ _ => .int _) (sa_cons noS_stays (s1_new (el_lst (ea_cons ev_c ea_nil) (by simp)) fun H1 p hp => .lst hp) (sa_cons noS_stays (s1_ev ev_c fun _ _ => .bl _) sa_nil)))) (by decide)) (by decide) fun v H1 e1 hv => ?_)) (by rw [all_true])) fun H8 e8 => k H8
          exact ev_call (vs := [v]) (ea_cons (ev_var rfl) ea_nil) fun H2 e Q k _ => ⟨v, rfl, .inr (hv.mono e), fun H' e' => k H' e'⟩
end

end Sp

set_option Elab.async false
set_option linter.all false
set_option maxRecDepth 100000
set_option maxHeartbeats 4000000
namespace Sp
open PySem L2 Mth
open Evl (Ex)
theorem all_mk {l : PySem.W.OpenLaw} {w : World} {K : PySem.W.Frag} {h : Heap} {mg : Str → Option Value} {fa  f1 f2 f3 f4 f5 f6 f7 f8 f9 f10 f11 f12 f13 f14 f15 f16 f17 f18 CH CB CP CT : Addr} (X : K.In h) (G : h.Ns mainGlobals mg) (hfa : mg "law" = some (.ref fa))
    {od1 an1 od2 an2 od3 an3 od4 an4 od5 an5 od6 an6 od7 an7 od8 an8 od9 an9 od10 an10 od11 an11 od12 an12 od13 an13 od14 an14 od15 an15 od16 an16 od17 an17 od18 an18 : Option Addr} {sl1 sl2 sl3 sl4 sl5 sl6 sl7 sl8 sl9 sl10 sl11 sl12 sl13 sl14 sl15 sl16 sl17 sl18 : Array (Option Value)} {oc1 kV1 dc1 pm1 cd1 ct1 oc2 kV2 dc2 pm2 cd2 ct2 oc3 kV3 dc3 pm3 cd3 ct3 oc4 kV4 dc4 pm4 cd4 ct4 oc5 kV5 dc5 pm5 cd5 ct5 oc6 kV6 dc6 pm6 cd6 ct6 oc7 kV7 dc7 pm7 cd7 ct7 oc8 kV8 dc8 pm8 cd8 ct8 oc9 kV9 dc9 pm9 cd9 ct9 oc10 kV10 dc10 pm10 cd10 ct10 oc11 kV11 dc11 pm11 cd11 ct11 oc12 kV12 dc12 pm12 cd12 ct12 oc13 kV13 dc13 pm13 cd13 ct13 oc14 kV14 dc14 pm14 cd14 ct14 oc15 kV15 dc15 pm15 cd15 ct15 oc16 kV16 dc16 pm16 cd16 ct16 oc17 kV17 dc17 pm17 cd17 ct17 oc18 kV18 dc18 pm18 cd18 ct18 : Value} {tMF tNH : Tok}
    (a1 : PySem.W.nsIn K mainGlobals "is_number" = some (some (.ref f1))) (l1 : K.lookup f1 = some ⟨oc1, od1, .func (PySem.W.fnOf "is_number" "is_number" (defArgs sIsNumber) (defBody sIsNumber) (defScope sIsNumber) .none kV1 dc1 pm1 an1 cd1 ct1), sl1⟩) (c1 : PySem.W.codeIn K cd1 "is_number" = true) (k1 : PySem.W.keepIn K (.ref f1) = true)
    (a2 : PySem.W.nsIn K mainGlobals "is_heap" = some (some (.ref f2))) (l2 : K.lookup f2 = some ⟨oc2, od2, .func (PySem.W.fnOf "is_heap" "is_heap" (defArgs sIsHeap) (defBody sIsHeap) (defScope sIsHeap) .none kV2 dc2 pm2 an2 cd2 ct2), sl2⟩) (c2 : PySem.W.codeIn K cd2 "is_heap" = true) (k2 : PySem.W.keepIn K (.ref f2) = true)
    (a3 : PySem.W.nsIn K mainGlobals "check_heaps" = some (some (.ref f3))) (l3 : K.lookup f3 = some ⟨oc3, od3, .func (PySem.W.fnOf "check_heaps" "check_heaps" (defArgs sCheckHeaps) (defBody sCheckHeaps) (defScope sCheckHeaps) .none kV3 dc3 pm3 an3 cd3 ct3), sl3⟩) (c3 : PySem.W.codeIn K cd3 "check_heaps" = true) (k3 : PySem.W.keepIn K (.ref f3) = true)
    (a4 : PySem.W.nsIn K mainGlobals "written" = some (some (.ref f4))) (l4 : K.lookup f4 = some ⟨oc4, od4, .func (PySem.W.fnOf "written" "written" (defArgs sWritten) (defBody sWritten) (defScope sWritten) .none kV4 dc4 pm4 an4 cd4 ct4), sl4⟩) (c4 : PySem.W.codeIn K cd4 "written" = true) (k4 : PySem.W.keepIn K (.ref f4) = true)
    (a5 : PySem.W.nsIn K mainGlobals "read" = some (some (.ref f5))) (l5 : K.lookup f5 = some ⟨oc5, od5, .func (PySem.W.fnOf "read" "read" (defArgs sRead) (defBody sRead) (defScope sRead) .none kV5 dc5 pm5 an5 cd5 ct5), sl5⟩) (c5 : PySem.W.codeIn K cd5 "read" = true) (k5 : PySem.W.keepIn K (.ref f5) = true)
    (a6 : PySem.W.nsIn K mainGlobals "fits" = some (some (.ref f6))) (l6 : K.lookup f6 = some ⟨oc6, od6, .func (PySem.W.fnOf "fits" "fits" (defArgs sFits) (defBody sFits) (defScope sFits) .none kV6 dc6 pm6 an6 cd6 ct6), sl6⟩) (c6 : PySem.W.codeIn K cd6 "fits" = true) (k6 : PySem.W.keepIn K (.ref f6) = true)
    (a7 : PySem.W.nsIn K mainGlobals "read_heap" = some (some (.ref f7))) (l7 : K.lookup f7 = some ⟨oc7, od7, .func (PySem.W.fnOf "read_heap" "read_heap" (defArgs sReadHeap) (defBody sReadHeap) (defScope sReadHeap) .none kV7 dc7 pm7 an7 cd7 ct7), sl7⟩) (c7 : PySem.W.codeIn K cd7 "read_heap" = true) (k7 : PySem.W.keepIn K (.ref f7) = true)
    (a8 : PySem.W.nsIn K mainGlobals "read_place" = some (some (.ref f8))) (l8 : K.lookup f8 = some ⟨oc8, od8, .func (PySem.W.fnOf "read_place" "read_place" (defArgs sReadPlace) (defBody sReadPlace) (defScope sReadPlace) .none kV8 dc8 pm8 an8 cd8 ct8), sl8⟩) (c8 : PySem.W.codeIn K cd8 "read_place" = true) (k8 : PySem.W.keepIn K (.ref f8) = true)
    (a9 : PySem.W.nsIn K mainGlobals "read_number" = some (some (.ref f9))) (l9 : K.lookup f9 = some ⟨oc9, od9, .func (PySem.W.fnOf "read_number" "read_number" (defArgs sReadNumber) (defBody sReadNumber) (defScope sReadNumber) .none kV9 dc9 pm9 an9 cd9 ct9), sl9⟩) (c9 : PySem.W.codeIn K cd9 "read_number" = true) (k9 : PySem.W.keepIn K (.ref f9) = true)
    (a10 : PySem.W.nsIn K mainGlobals "_law_cell_at" = some (some (.ref f10))) (l10 : K.lookup f10 = some ⟨oc10, od10, .func (PySem.W.fnOf "_law_cell_at" "_law_cell_at" (defArgs sLawCellAt) (defBody sLawCellAt) (defScope sLawCellAt) .none kV10 dc10 pm10 an10 cd10 ct10), sl10⟩) (c10 : PySem.W.codeIn K cd10 "_law_cell_at" = true) (k10 : PySem.W.keepIn K (.ref f10) = true)
    (a11 : PySem.W.nsIn K mainGlobals "_law_draw" = some (some (.ref f11))) (l11 : K.lookup f11 = some ⟨oc11, od11, .func (PySem.W.fnOf "_law_draw" "_law_draw" (defArgs sLawDraw) (defBody sLawDraw) (defScope sLawDraw) .none kV11 dc11 pm11 an11 cd11 ct11), sl11⟩) (c11 : PySem.W.codeIn K cd11 "_law_draw" = true) (k11 : PySem.W.keepIn K (.ref f11) = true)
    (a12 : PySem.W.nsIn K mainGlobals "_law_heaps" = some (some (.ref f12))) (l12 : K.lookup f12 = some ⟨oc12, od12, .func (PySem.W.fnOf "_law_heaps" "_law_heaps" (defArgs sLawHeaps) (defBody sLawHeaps) (defScope sLawHeaps) .none kV12 dc12 pm12 an12 cd12 ct12), sl12⟩) (c12 : PySem.W.codeIn K cd12 "_law_heaps" = true) (k12 : PySem.W.keepIn K (.ref f12) = true)
    (a13 : PySem.W.nsIn K mainGlobals "_law_number" = some (some (.ref f13))) (l13 : K.lookup f13 = some ⟨oc13, od13, .func (PySem.W.fnOf "_law_number" "_law_number" (defArgs sLawNumber) (defBody sLawNumber) (defScope sLawNumber) .none kV13 dc13 pm13 an13 cd13 ct13), sl13⟩) (c13 : PySem.W.codeIn K cd13 "_law_number" = true) (k13 : PySem.W.keepIn K (.ref f13) = true)
    (a14 : PySem.W.nsIn K mainGlobals "_law_in" = some (some (.ref f14))) (l14 : K.lookup f14 = some ⟨oc14, od14, .func (PySem.W.fnOf "_law_in" "_law_in" (defArgs sLawIn) (defBody sLawIn) (defScope sLawIn) .none kV14 dc14 pm14 an14 cd14 ct14), sl14⟩) (c14 : PySem.W.codeIn K cd14 "_law_in" = true) (k14 : PySem.W.keepIn K (.ref f14) = true)
    (a15 : PySem.W.nsIn K mainGlobals "_law_refused" = some (some (.ref f15))) (l15 : K.lookup f15 = some ⟨oc15, od15, .func (PySem.W.fnOf "_law_refused" "_law_refused" (defArgs sLawRefused) (defBody sLawRefused) (defScope sLawRefused) .none kV15 dc15 pm15 an15 cd15 ct15), sl15⟩) (c15 : PySem.W.codeIn K cd15 "_law_refused" = true) (k15 : PySem.W.keepIn K (.ref f15) = true)
    (a16 : PySem.W.nsIn K mainGlobals "_law_right" = some (some (.ref f16))) (l16 : K.lookup f16 = some ⟨oc16, od16, .func (PySem.W.fnOf "_law_right" "_law_right" (defArgs sLawRight) (defBody sLawRight) (defScope sLawRight) .none kV16 dc16 pm16 an16 cd16 ct16), sl16⟩) (c16 : PySem.W.codeIn K cd16 "_law_right" = true) (k16 : PySem.W.keepIn K (.ref f16) = true)
    (a17 : PySem.W.nsIn K mainGlobals "_law_few" = some (some (.ref f17))) (l17 : K.lookup f17 = some ⟨oc17, od17, .func (PySem.W.fnOf "_law_few" "_law_few" (defArgs sLawFew) (defBody sLawFew) (defScope sLawFew) .none kV17 dc17 pm17 an17 cd17 ct17), sl17⟩) (c17 : PySem.W.codeIn K cd17 "_law_few" = true) (k17 : PySem.W.keepIn K (.ref f17) = true)
    (a18 : PySem.W.nsIn K mainGlobals "law" = some (some (.ref f18))) (l18 : K.lookup f18 = some ⟨oc18, od18, .func (PySem.W.fnOf "law" "law" (defArgs sLaw) (defBody sLaw) (defScope sLaw) .none kV18 dc18 pm18 an18 cd18 ct18), sl18⟩) (c18 : PySem.W.codeIn K cd18 "law" = true) (k18 : PySem.W.keepIn K (.ref f18) = true)
    (z_isinstance : PySem.W.nsIn K mainGlobals "isinstance" = some none)
    (z_int : PySem.W.nsIn K mainGlobals "int" = some none)
    (z_bool : PySem.W.nsIn K mainGlobals "bool" = some none)
    (z_tuple : PySem.W.nsIn K mainGlobals "tuple" = some none)
    (z_list : PySem.W.nsIn K mainGlobals "list" = some none)
    (z_len : PySem.W.nsIn K mainGlobals "len" = some none)
    (z_sorted : PySem.W.nsIn K mainGlobals "sorted" = some none)
    (z_range : PySem.W.nsIn K mainGlobals "range" = some none)
    (z_sum : PySem.W.nsIn K mainGlobals "sum" = some none)
    (z_min : PySem.W.nsIn K mainGlobals "min" = some none)
    (z_max : PySem.W.nsIn K mainGlobals "max" = some none)
    (z_any : PySem.W.nsIn K mainGlobals "any" = some none)
    (z_all : PySem.W.nsIn K mainGlobals "all" = some none)
    (z_abs : PySem.W.nsIn K mainGlobals "abs" = some none)
    (z_str : PySem.W.nsIn K mainGlobals "str" = some none)
    (aCH : PySem.W.nsIn K mainGlobals "HeapError" = some (some (.ref CH)))
    (aCB : PySem.W.nsIn K mainGlobals "BadHeaps" = some (some (.ref CB)))
    (aCP : PySem.W.nsIn K mainGlobals "BadPlace" = some (some (.ref CP)))
    (aCT : PySem.W.nsIn K mainGlobals "BadText" = some (some (.ref CT)))
    (xCT : PySem.W.excIn K CT [.type "ValueError", .type "Exception", .type "BaseException", .type "object"] "ValueError.__new__" = true)
    (kCT : PySem.W.keepIn K (.ref CT) = true)
    (sCT : PySem.W.subIn K (.ref CT) (.type "BaseException") = some true)
    (tCT : PySem.W.typeIn K (.ref CT) = some (.type "type"))
    (hgT : PySem.W.findIn K (.ref CT) "__getattribute__" = some (some (.builtin "BaseException.__getattribute__")))
    (hkT : PySem.W.findIn K (.ref CT) "__getattr__" = some none)
    (hdT : PySem.W.hasDictIn K CT = true)
    (haT : PySem.W.findIn K (.ref CT) "__class__" = some (some (.builtin "object.__class__")))
    (hmT : PySem.W.mroIn K CT (.type "object") = some true)
    (k1T : PySem.W.kitOne K (.ref CT) (.ref CB) = some false)
    (k2T : PySem.W.kitOne K (.ref CT) (.ref CP) = some false)
    (k3T : PySem.W.kitOne K (.ref CT) (.ref CT) = some true)
    (k4T : PySem.W.kitOne K (.ref CT) (.type "ValueError") = some true)
    (exT : PySem.W.exmOne K (.ref CT) (.ref CH) = some true)
    (hnO : PySem.W.specialIn K (.builtin "object.__class__") "__get__" = some (some (.builtin "getset_descriptor.__get__")))
    (htO : PySem.W.takesIn K (.builtin "object.__class__") = some true)
    (zV : PySem.W.nsIn K mainGlobals "ValueError" = some none)
    (aMF : PySem.W.nsIn K mainGlobals "MOST_FIGURES" = some (some (.int 60 tMF)))
    (aNH : PySem.W.nsIn K mainGlobals "NO_HEAPS" = some (some (.str (Str.ofString "-") tNH))) :
    ∃ fd : FuncData, (∀ (s : Shared) (v : Value), BindsTo s fd ⟨[v], []⟩ [("_law_script", v)]) ∧ ∀ base : Heap, K.In base → base.Ns mainGlobals mg → FnOk l.prog w K mg base CX0 7 fa fd ["_law_script"] (spLaw K) := by
  have e := hfa.symm.trans (PySem.W.mg_of X G a18)
  cases e
  have m : Ms mg := ⟨PySem.W.mg_none_of X G z_isinstance, PySem.W.mg_none_of X G z_int, PySem.W.mg_none_of X G z_bool, PySem.W.mg_none_of X G z_tuple, PySem.W.mg_none_of X G z_list, PySem.W.mg_none_of X G z_len, PySem.W.mg_none_of X G z_sorted, PySem.W.mg_none_of X G z_range, PySem.W.mg_none_of X G z_sum, PySem.W.mg_none_of X G z_min, PySem.W.mg_none_of X G z_max, PySem.W.mg_none_of X G z_any, PySem.W.mg_none_of X G z_all, PySem.W.mg_none_of X G z_abs, PySem.W.mg_none_of X G z_str⟩
  have F1 := fun_mk (st := sIsNumber) l1 c1 k1
  have b1 := F1.binds (ps := ["value"]) fun _ _ _ _ _ _ us hl => match us, hl with | [_], _ => rfl
  have F2 := fun_mk (st := sIsHeap) l2 c2 k2
  have b2 := F2.binds (ps := ["value"]) fun _ _ _ _ _ _ us hl => match us, hl with | [_], _ => rfl
  have F3 := fun_mk (st := sCheckHeaps) l3 c3 k3
  have b3 := F3.binds (ps := ["heaps"]) fun _ _ _ _ _ _ us hl => match us, hl with | [_], _ => rfl
  have F4 := fun_mk (st := sWritten) l4 c4 k4
  have b4 := F4.binds (ps := ["heaps"]) fun _ _ _ _ _ _ us hl => match us, hl with | [_], _ => rfl
  have F5 := fun_mk (st := sRead) l5 c5 k5
  have b5 := F5.binds (ps := ["text"]) fun _ _ _ _ _ _ us hl => match us, hl with | [_], _ => rfl
  have F6 := fun_mk (st := sFits) l6 c6 k6
  have b6 := F6.binds (ps := ["number"]) fun _ _ _ _ _ _ us hl => match us, hl with | [_], _ => rfl
  have F7 := fun_mk (st := sReadHeap) l7 c7 k7
  have b7 := F7.binds (ps := ["word"]) fun _ _ _ _ _ _ us hl => match us, hl with | [_], _ => rfl
  have F8 := fun_mk (st := sReadPlace) l8 c8 k8
  have b8 := F8.binds (ps := ["word"]) fun _ _ _ _ _ _ us hl => match us, hl with | [_], _ => rfl
  have F9 := fun_mk (st := sReadNumber) l9 c9 k9
  have b9 := F9.binds (ps := ["word"]) fun _ _ _ _ _ _ us hl => match us, hl with | [_], _ => rfl
  have F10 := fun_mk (st := sLawCellAt) l10 c10 k10
  have b10 := F10.binds (ps := ["_law_script", "_law_k"]) fun _ _ _ _ _ _ us hl => match us, hl with | [_, _], _ => rfl
  have F11 := fun_mk (st := sLawDraw) l11 c11 k11
  have b11 := F11.binds (ps := ["_law_cell", "_law_k", "_law_many"]) fun _ _ _ _ _ _ us hl => match us, hl with | [_, _, _], _ => rfl
  have F12 := fun_mk (st := sLawHeaps) l12 c12 k12
  have b12 := F12.binds (ps := ["_law_script"]) fun _ _ _ _ _ _ us hl => match us, hl with | [_], _ => rfl
  have F13 := fun_mk (st := sLawNumber) l13 c13 k13
  have b13 := F13.binds (ps := ["_law_text"]) fun _ _ _ _ _ _ us hl => match us, hl with | [_], _ => rfl
  have F14 := fun_mk (st := sLawIn) l14 c14 k14
  have b14 := F14.binds (ps := ["_law_text"]) fun _ _ _ _ _ _ us hl => match us, hl with | [_], _ => rfl
  have F15 := fun_mk (st := sLawRefused) l15 c15 k15
  have b15 := F15.binds (ps := ["_law_text"]) fun _ _ _ _ _ _ us hl => match us, hl with | [_], _ => rfl
  have F16 := fun_mk (st := sLawRight) l16 c16 k16
  have b16 := F16.binds (ps := ["_law_text"]) fun _ _ _ _ _ _ us hl => match us, hl with | [_], _ => rfl
  have F17 := fun_mk (st := sLawFew) l17 c17 k17
  have b17 := F17.binds (ps := []) fun _ _ _ _ _ _ us hl => match us, hl with | [], _ => rfl
  have F18 := fun_mk (st := sLaw) l18 c18 k18
  refine ⟨PySem.W.fnOf "law" "law" (defArgs sLaw) (defBody sLaw) (defScope sLaw) .none kV18 dc18 pm18 an18 cd18 ct18, fun s v => .of_eq rfl, fun base _ _ => ?_⟩
  have N : Cl l.prog w K mg base "is_number" 1 ["value"] spIsNumber _ _ := ⟨okIsNumber F1 m.isinstance_ m.int_ m.bool_, PySem.W.mg_of X G a1, k1, b1⟩
  have HH : Cl l.prog w K mg base "is_heap" 2 ["value"] spIsHeap _ _ := ⟨okIsHeap F2 N m.isinstance_ m.tuple_ m.len_, PySem.W.mg_of X G a2, k2, b2⟩
  have CH : Cl l.prog w K mg base "check_heaps" 3 ["heaps"] spCheckHeaps _ _ := ⟨okCheckHeaps F3 HH m.isinstance_ m.list_, PySem.W.mg_of X G a3, k3, b3⟩
  have LC : Cl l.prog w K mg base "_law_cell_at" 1 ["_law_script", "_law_k"] (spCellAt K) _ _ := ⟨okCellAt F10 m, PySem.W.mg_of X G a10, k10, b10⟩
  have LD : Cl l.prog w K mg base "_law_draw" 1 ["_law_cell", "_law_k", "_law_many"] spDraw _ _ := ⟨okDraw F11, PySem.W.mg_of X G a11, k11, b11⟩
  have LH : Cl l.prog w K mg base "_law_heaps" 2 ["_law_script"] (spHeaps K) _ _ := ⟨okHeaps F12 LC LD m, PySem.W.mg_of X G a12, k12, b12⟩
  have xT : XTxt K mg "BadText" CT := ⟨PySem.W.mg_of X G aCT, xCT, kCT, sCT, tCT⟩
  have ke : KT K CT CB CP := ⟨⟨hgT, hkT, sCT, hdT, haT, hnO, htO, hmT⟩, k1T, k2T, k3T, k4T⟩
  have gM : ∃ t, mg "MOST_FIGURES" = some (.int 60 t) := ⟨_, PySem.W.mg_of X G aMF⟩
  have gN : ∃ t, mg "NO_HEAPS" = some (.str (Str.ofString "-") t) := ⟨_, PySem.W.mg_of X G aNH⟩
  have RN : Clx l.prog w K mg base "read_number" 1 ["word"] (spI numF CT) _ _ := ⟨okRN F9 m xT gM, PySem.W.mg_of X G a9, k9, b9⟩
  have RP : Clx l.prog w K mg base "read_place" 2 ["word"] (spI placeF CT) _ _ := ⟨okRP F8 RN xT, PySem.W.mg_of X G a8, k8, b8⟩
  have RH : Clx l.prog w K mg base "read_heap" 3 ["word"] (spWord CT) _ _ := ⟨okRH F7 RP RN, PySem.W.mg_of X G a7, k7, b7⟩
  have RD : Clx l.prog w K mg base "read" 4 ["text"] (spRead CT) _ _ := ⟨okRead F5 m RH xT gN, PySem.W.mg_of X G a5, k5, b5⟩
  have FT : Cl l.prog w K mg base "fits" 1 ["number"] spFits _ _ := ⟨okFits F6 m, PySem.W.mg_of X G a6, k6, b6⟩
  have WR : Cl l.prog w K mg base "written" 4 ["heaps"] spWrit _ _ := ⟨okWrit F4 CH FT m gN, PySem.W.mg_of X G a4, k4, b4⟩
  have LN : Cl l.prog w K mg base "_law_number" 1 ["_law_text"] spLN _ _ := ⟨okLN F13 m, PySem.W.mg_of X G a13, k13, b13⟩
  have LI : Cl l.prog w K mg base "_law_in" 2 ["_law_text"] spLI _ _ := ⟨okLI F14 LN, PySem.W.mg_of X G a14, k14, b14⟩
  have LR : Cl l.prog w K mg base "_law_refused" 5 ["_law_text"] spLR _ _ := ⟨okLR F15 m RD (PySem.W.mg_of X G aCH) (PySem.W.mg_of X G aCB) (PySem.W.mg_of X G aCP) (PySem.W.mg_of X G aCT) (PySem.W.mg_none_of X G zV) exT ke, PySem.W.mg_of X G a15, k15, b15⟩
  have RI : Cl l.prog w K mg base "_law_right" 6 ["_law_text"] spRight _ _ := ⟨okRight F16 m LI RD WR LR, PySem.W.mg_of X G a16, k16, b16⟩
  have FW : Cl l.prog w K mg base "_law_few" 1 [] spFew _ _ := ⟨okFew F17, PySem.W.mg_of X G a17, k17, b17⟩
  exact okLaw F18 m LC LD LH WR RI FW LR
theorem walk {l : PySem.W.OpenLaw} {q : Program} {loose : List Str} {XP : (Str → Option Value) → Heap → Prop} {YP : World → Heap → Prop} {d : DefRec} {K : Params → PySem.W.Frag} (hn : l.most = some 63) (hdf : d.params.defaults = [])
    (hY : ∀ (w : World) (h : Heap), YP w h → (K w.params).In h)
    (F : ∀ (w : World) (mg : Str → Option Value) (fa : Addr) (h : Heap), (K w.params).In h → h.Ns mainGlobals mg → mg d.name = some (.ref fa) →
      ∃ fd : FuncData, (∀ (s : Shared) (u : Value), BindsTo s fd ⟨[u], []⟩ [("_law_script", u)]) ∧ ∀ base : Heap, (K w.params).In base → base.Ns mainGlobals mg → FnOk l.prog w (K w.params) mg base CX0 7 fa fd ["_law_script"] (spLaw (K w.params))) :
    PySem.W.WalkO q loose XP YP l.row.toRowW d [] (fun f vs => PySem.call f vs) :=
  L2.walk_of (n := 63) (k := 7) (x := "_law_script") (CX := fun _ => CX0) (sp := fun w => spLaw (K w.params)) hn (by decide) hdf ⟨rfl, by decide, by decide⟩ hY F (fun _ _ a ns hl _ hS => ⟨a, ns, rfl, hS, hl, fun _ => rfl⟩) fun _ _ _ _ _ z => z
end Sp

set_option Elab.async false
set_option linter.all false
set_option maxRecDepth 100000
open PySem PySem.W PyProof.Rows in
set_option maxRecDepth 100000 in
set_option maxHeartbeats 0 in
theorem PySem.Challenge.cw_spreadrow_k06_written_holds : PySem.Challenge.rw_spreadrow_k06_written.Holds := by
  w_on; o_law; k_head; (case hw => w_witness2)
  k_fill
  refine Sp.walk (l := PySem.Challenge.rw_spreadrow_k06_written) rfl rfl (fun w h Y => PySem.W.kIn_of Y) ?F
  case F =>
    intro w mg fa h KX G hmg
    refine' Sp.all_mk KX G hmg ?a1 ?l1 ?c1 ?k1 ?a2 ?l2 ?c2 ?k2 ?a3 ?l3 ?c3 ?k3 ?a4 ?l4 ?c4 ?k4 ?a5 ?l5 ?c5 ?k5 ?a6 ?l6 ?c6 ?k6 ?a7 ?l7 ?c7 ?k7 ?a8 ?l8 ?c8 ?k8 ?a9 ?l9 ?c9 ?k9 ?a10 ?l10 ?c10 ?k10 ?a11 ?l11 ?c11 ?k11 ?a12 ?l12 ?c12 ?k12 ?a13 ?l13 ?c13 ?k13 ?a14 ?l14 ?c14 ?k14 ?a15 ?l15 ?c15 ?k15 ?a16 ?l16 ?c16 ?k16 ?a17 ?l17 ?c17 ?k17 ?a18 ?l18 ?c18 ?k18 ?z_isinstance ?z_int ?z_bool ?z_tuple ?z_list ?z_len ?z_sorted ?z_range ?z_sum ?z_min ?z_max ?z_any ?z_all ?z_abs ?z_str ?aCH ?aCB ?aCP ?aCT ?xCT ?kCT ?sCT ?tCT ?hgT ?hkT ?hdT ?haT ?hmT ?k1T ?k2T ?k3T ?k4T ?exT ?hnO ?htO ?zV ?aMF ?aNH
    (case a1 => first | k_is | k_exc | rfl)
    (case l1 => first | k_is | k_exc | rfl)
    (case c1 => first | k_is | k_exc | rfl)
    (case k1 => first | k_is | k_exc | rfl)
    (case a2 => first | k_is | k_exc | rfl)
    (case l2 => first | k_is | k_exc | rfl)
    (case c2 => first | k_is | k_exc | rfl)
    (case k2 => first | k_is | k_exc | rfl)
    (case a3 => first | k_is | k_exc | rfl)
    (case l3 => first | k_is | k_exc | rfl)
    (case c3 => first | k_is | k_exc | rfl)
    (case k3 => first | k_is | k_exc | rfl)
    (case a4 => first | k_is | k_exc | rfl)
    (case l4 => first | k_is | k_exc | rfl)
    (case c4 => first | k_is | k_exc | rfl)
    (case k4 => first | k_is | k_exc | rfl)
    (case a5 => first | k_is | k_exc | rfl)
    (case l5 => first | k_is | k_exc | rfl)
    (case c5 => first | k_is | k_exc | rfl)
    (case k5 => first | k_is | k_exc | rfl)
    (case a6 => first | k_is | k_exc | rfl)
    (case l6 => first | k_is | k_exc | rfl)
    (case c6 => first | k_is | k_exc | rfl)
    (case k6 => first | k_is | k_exc | rfl)
    (case a7 => first | k_is | k_exc | rfl)
    (case l7 => first | k_is | k_exc | rfl)
    (case c7 => first | k_is | k_exc | rfl)
    (case k7 => first | k_is | k_exc | rfl)
    (case a8 => first | k_is | k_exc | rfl)
    (case l8 => first | k_is | k_exc | rfl)
    (case c8 => first | k_is | k_exc | rfl)
    (case k8 => first | k_is | k_exc | rfl)
    (case a9 => first | k_is | k_exc | rfl)
    (case l9 => first | k_is | k_exc | rfl)
    (case c9 => first | k_is | k_exc | rfl)
    (case k9 => first | k_is | k_exc | rfl)
    (case a10 => first | k_is | k_exc | rfl)
    (case l10 => first | k_is | k_exc | rfl)
    (case c10 => first | k_is | k_exc | rfl)
    (case k10 => first | k_is | k_exc | rfl)
    (case a11 => first | k_is | k_exc | rfl)
    (case l11 => first | k_is | k_exc | rfl)
    (case c11 => first | k_is | k_exc | rfl)
    (case k11 => first | k_is | k_exc | rfl)
    (case a12 => first | k_is | k_exc | rfl)
    (case l12 => first | k_is | k_exc | rfl)
    (case c12 => first | k_is | k_exc | rfl)
    (case k12 => first | k_is | k_exc | rfl)
    (case a13 => first | k_is | k_exc | rfl)
    (case l13 => first | k_is | k_exc | rfl)
    (case c13 => first | k_is | k_exc | rfl)
    (case k13 => first | k_is | k_exc | rfl)
    (case a14 => first | k_is | k_exc | rfl)
    (case l14 => first | k_is | k_exc | rfl)
    (case c14 => first | k_is | k_exc | rfl)
    (case k14 => first | k_is | k_exc | rfl)
    (case a15 => first | k_is | k_exc | rfl)
    (case l15 => first | k_is | k_exc | rfl)
    (case c15 => first | k_is | k_exc | rfl)
    (case k15 => first | k_is | k_exc | rfl)
    (case a16 => first | k_is | k_exc | rfl)
    (case l16 => first | k_is | k_exc | rfl)
    (case c16 => first | k_is | k_exc | rfl)
    (case k16 => first | k_is | k_exc | rfl)
    (case a17 => first | k_is | k_exc | rfl)
    (case l17 => first | k_is | k_exc | rfl)
    (case c17 => first | k_is | k_exc | rfl)
    (case k17 => first | k_is | k_exc | rfl)
    (case a18 => first | k_is | k_exc | rfl)
    (case l18 => first | k_is | k_exc | rfl)
    (case c18 => first | k_is | k_exc | rfl)
    (case k18 => first | k_is | k_exc | rfl)
    (case z_isinstance => first | k_is | k_exc | rfl)
    (case z_int => first | k_is | k_exc | rfl)
    (case z_bool => first | k_is | k_exc | rfl)
    (case z_tuple => first | k_is | k_exc | rfl)
    (case z_list => first | k_is | k_exc | rfl)
    (case z_len => first | k_is | k_exc | rfl)
    (case z_sorted => first | k_is | k_exc | rfl)
    (case z_range => first | k_is | k_exc | rfl)
    (case z_sum => first | k_is | k_exc | rfl)
    (case z_min => first | k_is | k_exc | rfl)
    (case z_max => first | k_is | k_exc | rfl)
    (case z_any => first | k_is | k_exc | rfl)
    (case z_all => first | k_is | k_exc | rfl)
    (case z_abs => first | k_is | k_exc | rfl)
    (case z_str => first | k_is | k_exc | rfl)
    (case aCH => first | k_is | k_exc | rfl)
    (case aCB => first | k_is | k_exc | rfl)
    (case aCP => first | k_is | k_exc | rfl)
    (case aCT => first | k_is | k_exc | rfl)
    (case xCT => first | k_is | k_exc | rfl)
    (case kCT => first | k_is | k_exc | rfl)
    (case sCT => first | k_is | k_exc | rfl)
    (case tCT => first | k_is | k_exc | rfl)
    (case hgT => first | k_is | k_exc | rfl)
    (case hkT => first | k_is | k_exc | rfl)
    (case hdT => first | k_is | k_exc | rfl)
    (case haT => first | k_is | k_exc | rfl)
    (case hmT => first | k_is | k_exc | rfl)
    (case k1T => first | k_is | k_exc | rfl)
    (case k2T => first | k_is | k_exc | rfl)
    (case k3T => first | k_is | k_exc | rfl)
    (case k4T => first | k_is | k_exc | rfl)
    (case exT => first | k_is | k_exc | rfl)
    (case hnO => first | k_is | k_exc | rfl)
    (case htO => first | k_is | k_exc | rfl)
    (case zV => first | k_is | k_exc | rfl)
    (case aMF => first | k_is | k_exc | rfl)
    (case aNH => first | k_is | k_exc | rfl)
#print axioms PySem.Challenge.cw_spreadrow_k06_written_holds

