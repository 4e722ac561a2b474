import PyProof.Rows.All
import Wide.All
import OpenK.AllK
import Wide.FinOn
import HandS.ForMost
import HandS.Exc
import HandS.TryOnly
import HandS.ExcOwn
import HandS.WordsExc
import HandS.Deep
import HandS.IsInst
import HandS.Conv
import HandS.Style
import HandS.Nested
import HandS.EndTab
import HandS.SortRule
import HandS.TupLen
import KE.SortKeyHeap
import HandS.Walk
import HandS.DictComp
import HandS.IterVal
import HandS.SortKw
import HandS.Star
import KE.DatumOrd
import HandS.ExcIs
import HandS.ExcValue
import HandS.TupLe
import HandS.Text
import PyProof.FitsReplace
import HandS.Flow
import HandS.TupSets
import HandS.SortOrd
import KE.DataFind
import KE.DataMinKey
import KE.KDictPairs
import KE.KDictSum
import KE.KLam
import KE.KNestM
import PySem.Challenge.RW_swaplattice_k04_joins_and_reasons
set_option linter.all false
namespace Sw

/-- the whole numbers from a up to below b -/
def rngI (a b : Int) : List Int := (List.range (b - a).toNat).map fun (i : Nat) => a + (i : Int)
abbrev rng (n : Nat) : List Int := rngI 1 ((n : Int) + 1)

theorem mem_rngI {a b x : Int} : x ∈ rngI a b ↔ a ≤ x ∧ x < b := by
  unfold rngI
  simp only [List.mem_map, List.mem_range]
  constructor
  · rintro ⟨i, hi, rfl⟩
    omega
  · rintro ⟨h1, h2⟩
    exact ⟨(x - a).toNat, by omega, by omega⟩
theorem nodup_rngI (a b : Int) : (rngI a b).Nodup := by
  unfold rngI
  refine List.Pairwise.map _ (R := fun i j => i ≠ j) (fun i j h e => h ?_) List.nodup_range
  omega
theorem len_rngI (a b : Int) : (rngI a b).length = (b - a).toNat := by
  unfold rngI
  rw [List.length_map, List.length_range]
theorem rngI_split {a b c : Int} (h1 : a ≤ b) (h2 : b ≤ c) : rngI a c = rngI a b ++ rngI b c := by
  unfold rngI
  have e : (c - a).toNat = (b - a).toNat + (c - b).toNat := by omega
  rw [e, List.range_add, List.map_append, List.map_map]
  congr 1
  refine List.map_congr_left fun i _ => ?_
  show a + (((b - a).toNat + i : Nat) : Int) = b + (i : Int)
  omega
theorem rngI_nil {a b : Int} (h : b ≤ a) : rngI a b = [] := by
  unfold rngI
  have e : (b - a).toNat = 0 := by omega
  rw [e]
  rfl
theorem rngI_one (a : Int) : rngI a (a + 1) = [a] := by
  unfold rngI
  have e : (a + 1 - a).toNat = 1 := by omega
  rw [e]
  show [a + ((0 : Nat) : Int)] = [a]
  congr 1
  omega
theorem rngI_cons {a b : Int} (h : a < b) : rngI a b = a :: rngI (a + 1) b := by
  rw [rngI_split (b := a + 1) (by omega) (by omega), rngI_one]
  rfl

/-- a row of n things -/
structure Row (n : Nat) (r : List Int) : Prop where
  perm : r.Perm (rng n)

section
variable {n : Nat} {r s c : List Int} {x y a b : Int}
theorem Row.len (h : Row n r) : r.length = n := by
  rw [h.perm.length_eq, len_rngI]
  omega
theorem Row.mem (h : Row n r) : x ∈ r ↔ 1 ≤ x ∧ x ≤ (n : Int) := by
  rw [h.perm.mem_iff, mem_rngI]
  omega
theorem Row.nodup (h : Row n r) : r.Nodup := (List.Perm.nodup_iff h.perm).mpr (nodup_rngI _ _)
theorem Row.of (h1 : r.Nodup) (h2 : ∀ x, x ∈ r ↔ 1 ≤ x ∧ x ≤ (n : Int)) : Row n r := by
  refine ⟨List.perm_iff_count.mpr fun x => ?_⟩
  rw [h1.count, (nodup_rngI 1 ((n : Int) + 1)).count]
  have e : x ∈ r ↔ x ∈ rng n := by
    rw [h2, mem_rngI]
    omega
  by_cases h : x ∈ r
  · rw [if_pos h, if_pos (e.mp h)]
  · rw [if_neg h, if_neg fun z => h (e.mpr z)]

/-- x stands ahead of y -/
def Bef (r : List Int) (x y : Int) : Prop := r.idxOf x < r.idxOf y ∧ y ∈ r
instance : Decidable (Bef r x y) := by
  unfold Bef
  exact inferInstance
/-- the pair (a, b) is turned -/
def Inv (r : List Int) (a b : Int) : Prop := a < b ∧ Bef r b a
instance : Decidable (Inv r a b) := by
  unfold Inv
  exact inferInstance

theorem Bef.left (h : Bef r x y) : x ∈ r := by
  have h1 : r.idxOf y < r.length := List.idxOf_lt_length_iff.mpr h.2
  exact List.idxOf_lt_length_iff.mp (Nat.lt_trans h.1 h1)
theorem idx_inj (hx : x ∈ r) (e : r.idxOf x = r.idxOf y) : x = y := by
  have h1 : r.idxOf x < r.length := List.idxOf_lt_length_iff.mpr hx
  have h2 : r.idxOf y < r.length := by
    rw [← e]
    exact h1
  have e1 := List.getElem_idxOf h1
  have e2 := List.getElem_idxOf h2
  rw [← e1, ← e2]
  congr 1
theorem bef_total (hx : x ∈ r) (hy : y ∈ r) (ne : x ≠ y) : Bef r x y ∨ Bef r y x := by
  rcases Nat.lt_trichotomy (r.idxOf x) (r.idxOf y) with h | h | h
  · exact .inl ⟨h, hy⟩
  · exact absurd (idx_inj hx h) ne
  · exact .inr ⟨h, hx⟩
theorem Bef.asymm (h : Bef r x y) (h' : Bef r y x) : False := by
  have h1 := h.1
  have h2 := h'.1
  omega
theorem Bef.ne (h : Bef r x y) : x ≠ y := fun e => by
  subst e
  exact h.asymm h
theorem Bef.trans {z : Int} (h : Bef r x y) (h' : Bef r y z) : Bef r x z := ⟨Nat.lt_trans h.1 h'.1, h'.2⟩
theorem pairwise_bef (nd : r.Nodup) : r.Pairwise (Bef r) := by
  rw [List.pairwise_iff_getElem]
  intro i j hi hj hij
  refine ⟨?_, List.getElem_mem hj⟩
  rw [nd.idxOf_getElem i hi, nd.idxOf_getElem j hj]
  exact hij

theorem Inv.bounds (R : Row n r) (h : Inv r a b) : 1 ≤ a ∧ a < b ∧ b ≤ (n : Int) := by
  have h1 := R.mem.mp h.2.2
  have h2 := R.mem.mp h.2.left
  have h3 := h.1
  omega
theorem inv_trans {z : Int} (h : Inv r a b) (h' : Inv r b z) : Inv r a z := ⟨Int.lt_trans h.1 h'.1, h'.2.trans h.2⟩
theorem inv_co {z : Int} (R : Row n r) (h : Inv r a z) (h1 : a < b) (h2 : b < z) : Inv r a b ∨ Inv r b z := by
  have bd := h.bounds R
  have hb : b ∈ r := R.mem.mpr (by omega)
  by_cases q : r.idxOf b < r.idxOf a
  · exact .inl ⟨h1, q, h.2.2⟩
  · refine .inr ⟨h2, ?_, hb⟩
    have h3 := h.2.1
    omega
theorem row_ext (R : Row n r) (S : Row n s) (h : ∀ a b, Inv r a b ↔ Inv s a b) : r = s := by
  refine List.Perm.eq_of_pairwise (le := Bef s) (fun a b _ _ h1 h2 => (h1.asymm h2).elim) ?_ (pairwise_bef S.nodup) (R.perm.trans S.perm.symm)
  refine List.Pairwise.imp_of_mem (fun {a b} ha hb hab => ?_) (pairwise_bef R.nodup)
  have ha' : a ∈ s := S.mem.mpr (R.mem.mp ha)
  have hb' : b ∈ s := S.mem.mpr (R.mem.mp hb)
  have ne := hab.ne
  by_cases hlt : a < b
  · rcases bef_total ha' hb' ne with z | z
    · exact z
    · have q : Inv r a b := (h a b).mpr ⟨hlt, z⟩
      exact (q.2.asymm hab).elim
  · have q : Inv r b a := ⟨by omega, hab⟩
    exact ((h b a).mp q).2
end

section
variable {n : Nat} (T : Int → Int → Bool)
/-- x is to stand ahead of y, or is y -/
def leT (x y : Int) : Bool := decide (x = y) || (decide (x < y) && !T x y) || (decide (y < x) && T y x)
def LtT (x y : Int) : Prop := (x < y ∧ T x y = false) ∨ (y < x ∧ T y x = true)
theorem leT_iff (x y : Int) : leT T x y = true ↔ x = y ∨ LtT T x y := by
  unfold leT LtT
  simp only [Bool.or_eq_true, Bool.and_eq_true, decide_eq_true_eq, Bool.not_eq_true', or_assoc]
variable {T}
structure Clo (n : Nat) (T : Int → Int → Bool) : Prop where
  bd : ∀ a b, T a b = true → 1 ≤ a ∧ a < b ∧ b ≤ (n : Int)
  tr : ∀ a b c, T a b = true → T b c = true → T a c = true
  co : ∀ a b c, T a c = true → a < b → b < c → T a b = true ∨ T b c = true
theorem ltT_trans (C : Clo n T) {x y z : Int} (h1 : LtT T x y) (h2 : LtT T y z) : x = z ∨ LtT T x z := by
  rcases h1 with ⟨a1, b1⟩ | ⟨a1, b1⟩ <;> rcases h2 with ⟨a2, b2⟩ | ⟨a2, b2⟩
  · refine .inr (.inl ⟨by omega, ?_⟩)
    cases e : T x z with
    | false => rfl
    | true =>
      rcases C.co x y z e a1 a2 with q | q
      · rw [b1] at q; cases q
      · rw [b2] at q; cases q
  · rcases Int.lt_trichotomy x z with q | q | q
    · refine .inr (.inl ⟨q, ?_⟩)
      cases e : T x z with
      | false => rfl
      | true =>
        have := C.tr x z y e b2
        rw [b1] at this; cases this
    · exact .inl q
    · refine .inr (.inr ⟨q, ?_⟩)
      rcases C.co z x y b2 q a1 with w | w
      · exact w
      · rw [b1] at w; cases w
  · rcases Int.lt_trichotomy x z with q | q | q
    · refine .inr (.inl ⟨q, ?_⟩)
      cases e : T x z with
      | false => rfl
      | true =>
        have := C.tr y x z b1 e
        rw [b2] at this; cases this
    · exact .inl q
    · refine .inr (.inr ⟨q, ?_⟩)
      rcases C.co y z x b1 a2 q with w | w
      · rw [b2] at w; cases w
      · exact w
  · exact .inr (.inr ⟨by omega, C.tr z y x b2 b1⟩)
theorem leT_trans (C : Clo n T) (x y z : Int) (h1 : leT T x y = true) (h2 : leT T y z = true) : leT T x z = true := by
  rw [leT_iff] at *
  rcases h1 with rfl | h1
  · exact h2
  · rcases h2 with rfl | h2
    · exact .inr h1
    · exact ltT_trans C h1 h2
theorem leT_total (x y : Int) : (leT T x y || leT T y x) = true := by
  rw [Bool.or_eq_true, leT_iff, leT_iff]
  rcases Int.lt_trichotomy x y with q | q | q
  · cases e : T x y with
    | false => exact .inl (.inr (.inl ⟨q, e⟩))
    | true => exact .inr (.inr (.inr ⟨q, e⟩))
  · exact .inl (.inl q)
  · cases e : T y x with
    | false => exact .inr (.inr (.inl ⟨q, e⟩))
    | true => exact .inl (.inr (.inr ⟨q, e⟩))
def rowT (n : Nat) (T : Int → Int → Bool) : List Int := (rng n).mergeSort (leT T)
theorem rowT_row : Row n (rowT n T) := ⟨List.mergeSort_perm _ _⟩
theorem pw_idx {r : List Int} {R : Int → Int → Prop} (h : r.Pairwise R) {x y : Int} (b : Bef r x y) : R x y := by
  have h1 : r.idxOf y < r.length := List.idxOf_lt_length_iff.mpr b.2
  have h2 : r.idxOf x < r.length := Nat.lt_trans b.1 h1
  have q := List.pairwise_iff_getElem.mp h (r.idxOf x) (r.idxOf y) h2 h1 b.1
  rw [List.getElem_idxOf h1, List.getElem_idxOf h2] at q
  exact q
theorem rowT_inv (C : Clo n T) (a b : Int) : Inv (rowT n T) a b ↔ T a b = true := by
  have pw : (rowT n T).Pairwise fun x y => leT T x y = true := List.pairwise_mergeSort (leT_trans C) leT_total _
  constructor
  · rintro ⟨h1, h2⟩
    have q := (leT_iff T _ _).mp (pw_idx pw h2)
    rcases q with q | ⟨q, _⟩ | ⟨_, q⟩
    · omega
    · omega
    · exact q
  · intro h
    have bd := C.bd a b h
    have ha : a ∈ rowT n T := rowT_row.mem.mpr (by omega)
    have hb : b ∈ rowT n T := rowT_row.mem.mpr (by omega)
    refine ⟨bd.2.1, ?_⟩
    rcases bef_total ha hb (by omega) with z | z
    · have q := (leT_iff T _ _).mp (pw_idx pw z)
      rcases q with q | ⟨_, q⟩ | ⟨q, _⟩
      · omega
      · rw [h] at q; cases q
      · omega
    · exact z
end

section
variable {n : Nat} {r : List Int} {x : Int}
def ahead (t : Int → Int → Bool) (n : Nat) (x : Int) : Int :=
  (((rngI 1 x).filter fun l => !t l x).length : Int) + (((rngI (x + 1) ((n : Int) + 1)).filter fun h => t x h).length : Int)
theorem count_idx (nd : r.Nodup) : ∀ i, i ≤ r.length → r.countP (fun y => decide (r.idxOf y < i)) = i := by
  intro i hi
  have e : r = r.take i ++ r.drop i := (List.take_append_drop i r).symm
  have h1 : (r.take i).countP (fun y => decide (r.idxOf y < i)) = i := by
    have q : (r.take i).countP (fun y => decide (r.idxOf y < i)) = (r.take i).length := List.countP_eq_length.mpr fun y hy => by
      obtain ⟨j, hj, rfl⟩ := List.mem_iff_getElem.mp hy
      rw [List.length_take] at hj
      rw [List.getElem_take, nd.idxOf_getElem]
      exact decide_eq_true (by omega)
    rw [q, List.length_take]
    omega
  have h2 : (r.drop i).countP (fun y => decide (r.idxOf y < i)) = 0 := List.countP_eq_zero.mpr fun y hy => by
    obtain ⟨j, hj, rfl⟩ := List.mem_iff_getElem.mp hy
    rw [List.getElem_drop, nd.idxOf_getElem]
    intro z
    have := of_decide_eq_true z
    omega
  have h3 : r.countP (fun y => decide (r.idxOf y < i)) = (r.take i ++ r.drop i).countP (fun y => decide (r.idxOf y < i)) := congrArg (List.countP _) e
  rw [h3, List.countP_append, h1, h2, Nat.add_zero]
theorem countP_congr' {p q : Int → Bool} : ∀ {l : List Int}, (∀ x ∈ l, p x = q x) → l.countP p = l.countP q
  | [], _ => rfl
  | a :: l, h => by
    rw [List.countP_cons, List.countP_cons, h a List.mem_cons_self, countP_congr' fun x hx => h x (List.mem_cons_of_mem _ hx)]
theorem ahead_eq {t : Int → Int → Bool} (R : Row n r) (ht : ∀ a b, t a b = true ↔ Inv r a b) (hx : x ∈ r) : ahead t n x = (r.idxOf x : Int) := by
  have bd := R.mem.mp hx
  have h0 := count_idx R.nodup (r.idxOf x) (Nat.le_of_lt (List.idxOf_lt_length_iff.mpr hx))
  rw [R.perm.countP_eq] at h0
  have e : rng n = rngI 1 x ++ (rngI x (x + 1) ++ rngI (x + 1) ((n : Int) + 1)) := by
    rw [← rngI_split (a := x) (by omega) (by omega), ← rngI_split (by omega) (by omega)]
  rw [e, List.countP_append, List.countP_append, rngI_one] at h0
  have h2 : [x].countP (fun y => decide (r.idxOf y < r.idxOf x)) = 0 := List.countP_eq_zero.mpr fun y hy => by
    rw [List.mem_singleton.mp hy]
    simp
  have h1 : ((rngI 1 x).filter fun l => !t l x).length = (rngI 1 x).countP (fun y => decide (r.idxOf y < r.idxOf x)) := by
    rw [← List.countP_eq_length_filter]
    refine countP_congr' fun l hl => ?_
    have hl' := mem_rngI.mp hl
    have hlr : l ∈ r := R.mem.mpr (by omega)
    cases q : t l x with
    | true =>
      have z := ((ht l x).mp q).2.1
      show false = _
      exact (decide_eq_false (by omega)).symm
    | false =>
      show true = _
      refine (decide_eq_true ?_).symm
      rcases bef_total hlr hx (by omega) with z | z
      · exact z.1
      · have w : t l x = true := (ht l x).mpr ⟨hl'.2, z⟩
        rw [q] at w; cases w
  have h3 : ((rngI (x + 1) ((n : Int) + 1)).filter fun h => t x h).length = (rngI (x + 1) ((n : Int) + 1)).countP (fun y => decide (r.idxOf y < r.idxOf x)) := by
    rw [← List.countP_eq_length_filter]
    refine countP_congr' fun l hl => ?_
    have hl' := mem_rngI.mp hl
    have hlr : l ∈ r := R.mem.mpr (by omega)
    cases q : t x l with
    | true =>
      have z := ((ht x l).mp q).2.1
      exact (decide_eq_true z).symm
    | false =>
      refine (decide_eq_false fun z => ?_).symm
      have w : t x l = true := (ht x l).mpr ⟨by omega, z, hx⟩
      rw [q] at w; cases w
  unfold ahead
  rw [h1, h3]
  rw [h2] at h0
  omega
/-- sorted by how many stand ahead: the row itself -/
theorem sorted_row {t : Int → Int → Bool} (R : Row n r) (ht : ∀ a b, t a b = true ↔ Inv r a b) {out : List Int} (hp : out.Perm (rng n)) (hs : out.Pairwise fun x y => ahead t n x ≤ ahead t n y) : out = r := by
  refine List.Perm.eq_of_pairwise (le := fun x y => ahead t n x ≤ ahead t n y) (fun a b ha hb h1 h2 => ?_) hs ?_ (hp.trans R.perm.symm)
  · have ha' : a ∈ r := R.perm.mem_iff.mpr (hp.mem_iff.mp ha)
    rw [ahead_eq R ht ha', ahead_eq R ht hb] at h1 h2
    exact idx_inj ha' (by omega)
  · refine List.Pairwise.imp_of_mem (fun {a b} ha hb h => ?_) (pairwise_bef R.nodup)
    rw [ahead_eq R ht ha, ahead_eq R ht hb]
    have := h.1
    omega
end
end Sw

set_option linter.all false
namespace Sw
def leP (p q : Int × Int) : Bool := decide (p.1 < q.1) || (decide (p.1 = q.1) && decide (p.2 ≤ q.2))
theorem leP_iff (p q : Int × Int) : leP p q = true ↔ p.1 < q.1 ∨ (p.1 = q.1 ∧ p.2 ≤ q.2) := by
  unfold leP
  simp only [Bool.or_eq_true, Bool.and_eq_true, decide_eq_true_eq]
theorem leP_trans (p q s : Int × Int) (h1 : leP p q = true) (h2 : leP q s = true) : leP p s = true := by
  rw [leP_iff] at *
  omega
theorem leP_total (p q : Int × Int) : (leP p q || leP q p) = true := by
  rw [Bool.or_eq_true, leP_iff, leP_iff]
  omega
theorem leP_anti {p q : Int × Int} (h1 : leP p q = true) (h2 : leP q p = true) : p = q := by
  rw [leP_iff] at *
  exact Prod.ext (by omega) (by omega)
def srtP (ps : List (Int × Int)) : List (Int × Int) := ps.mergeSort leP
theorem srtP_perm (ps : List (Int × Int)) : (srtP ps).Perm ps := List.mergeSort_perm _ _
theorem srtP_pw (ps : List (Int × Int)) : (srtP ps).Pairwise fun p q => leP p q = true := List.pairwise_mergeSort leP_trans leP_total _
theorem srtP_uniq {ps out : List (Int × Int)} (h1 : out.Perm ps) (h2 : out.Pairwise fun p q => leP p q = true) : out = srtP ps :=
  List.Perm.eq_of_pairwise (le := fun p q => leP p q = true) (fun a b _ _ x y => leP_anti x y) h2 (srtP_pw ps) (h1.trans (srtP_perm ps).symm)
theorem perm_of_mem {α : Type} [BEq α] [LawfulBEq α] {l m : List α} (hl : l.Nodup) (hm : m.Nodup) (h : ∀ x, x ∈ l ↔ x ∈ m) : l.Perm m := by
  refine List.perm_iff_count.mpr fun x => ?_
  rw [hl.count, hm.count]
  by_cases q : x ∈ l
  · rw [if_pos q, if_pos ((h x).mp q)]
  · rw [if_neg q, if_neg fun z => q ((h x).mpr z)]

def tpRaw : List Int → List (Int × Int)
  | [] => []
  | h :: t => ((t.filter fun l => decide (l < h)).map fun l => (l, h)) ++ tpRaw t
def tp (r : List Int) : List (Int × Int) := srtP (tpRaw r)
theorem idx_ne {h x : Int} {t : List Int} (ne : h ≠ x) : (h :: t).idxOf x = t.idxOf x + 1 := by
  rw [List.idxOf_cons]
  have e : (h == x) = false := beq_eq_false_iff_ne.mpr ne
  rw [e]
  rfl
theorem bef_cons {h x y : Int} {t : List Int} (nd : (h :: t).Nodup) : Bef (h :: t) x y ↔ (x = h ∧ y ∈ t) ∨ Bef t x y := by
  obtain ⟨nh, nt⟩ := List.nodup_cons.mp nd
  unfold Bef
  constructor
  · rintro ⟨h1, h2⟩
    by_cases hx : h = x
    · subst hx
      refine .inl ⟨rfl, ?_⟩
      rcases List.mem_cons.mp h2 with e | e
      · subst e
        omega
      · exact e
    · rw [idx_ne hx] at h1
      have hy : h ≠ y := fun e => by
        subst e
        rw [List.idxOf_cons_self] at h1
        omega
      rw [idx_ne hy] at h1
      rcases List.mem_cons.mp h2 with e | e
      · exact absurd e.symm hy
      · exact .inr ⟨by omega, e⟩
  · rintro (⟨rfl, h2⟩ | ⟨h1, h2⟩)
    · have hy : x ≠ y := fun e => nh (e ▸ h2)
      rw [List.idxOf_cons_self, idx_ne hy]
      exact ⟨by omega, List.mem_cons_of_mem _ h2⟩
    · have hy : h ≠ y := fun e => nh (e ▸ h2)
      have hx : h ≠ x := fun e => by
        have : x ∈ t := Bef.left (r := t) (y := y) ⟨h1, h2⟩
        exact nh (e ▸ this)
      rw [idx_ne hy, idx_ne hx]
      exact ⟨by omega, List.mem_cons_of_mem _ h2⟩
theorem mem_tpRaw : ∀ {r : List Int}, r.Nodup → ∀ a b, (a, b) ∈ tpRaw r ↔ Inv r a b
  | [], _, a, b => by
    unfold tpRaw Inv Bef
    simp
  | h :: t, nd, a, b => by
    have ih := mem_tpRaw (List.nodup_cons.mp nd).2 a b
    unfold tpRaw
    rw [List.mem_append, ih]
    unfold Inv
    rw [bef_cons nd, List.mem_map]
    constructor
    · rintro (⟨l, hl, e⟩ | ⟨h1, h2⟩)
      · obtain ⟨m1, m2⟩ := List.mem_filter.mp hl
        injection e with e1 e2
        subst e1 e2
        exact ⟨of_decide_eq_true m2, .inl ⟨rfl, m1⟩⟩
      · exact ⟨h1, .inr h2⟩
    · rintro ⟨h1, (⟨rfl, h2⟩ | h2)⟩
      · exact .inl ⟨a, List.mem_filter.mpr ⟨h2, decide_eq_true h1⟩, rfl⟩
      · exact .inr ⟨h1, h2⟩
theorem nodup_tpRaw : ∀ {r : List Int}, r.Nodup → (tpRaw r).Nodup
  | [], _ => List.nodup_nil
  | h :: t, nd => by
    obtain ⟨nh, nt⟩ := List.nodup_cons.mp nd
    unfold tpRaw
    refine List.nodup_append.mpr ⟨?_, nodup_tpRaw nt, ?_⟩
    · refine List.Pairwise.map _ (R := fun i j => i ≠ j) (fun i j q e => q ?_) (nt.sublist List.filter_sublist)
      injection e
    · rintro ⟨a, b⟩ h1 ⟨a', b'⟩ h2 e
      obtain ⟨l, _, e1⟩ := List.mem_map.mp h1
      injection e with e2 e3
      injection e1 with e4 e5
      have q := ((mem_tpRaw nt a' b').mp h2).2.left
      rw [← e3, ← e5] at q
      exact nh q
theorem mem_tp {r : List Int} (nd : r.Nodup) (a b : Int) : (a, b) ∈ tp r ↔ Inv r a b := by
  unfold tp
  rw [(srtP_perm _).mem_iff, mem_tpRaw nd]
theorem nodup_tp {r : List Int} (nd : r.Nodup) : (tp r).Nodup := (List.Perm.nodup_iff (srtP_perm _)).mpr (nodup_tpRaw nd)
theorem srtP_tp {r : List Int} {ps : List (Int × Int)} (nd : r.Nodup) (np : ps.Nodup) (h : ∀ a b, (a, b) ∈ ps ↔ Inv r a b) : srtP ps = tp r :=
  srtP_uniq ((srtP_perm ps).trans (perm_of_mem np (nodup_tpRaw nd) fun ⟨a, b⟩ => by rw [h, mem_tpRaw nd])) (srtP_pw ps)

def putP (t : List (Int × Int)) (p : Int × Int) : List (Int × Int) := if p ∈ t then t else t ++ [p]
theorem mem_putP {t : List (Int × Int)} {p q : Int × Int} : q ∈ putP t p ↔ q ∈ t ∨ q = p := by
  unfold putP
  split
  · rename_i h
    constructor
    · exact .inl
    · rintro (z | rfl)
      · exact z
      · exact h
  · rw [List.mem_append, List.mem_singleton]
theorem nodup_putP {t : List (Int × Int)} {p : Int × Int} (h : t.Nodup) : (putP t p).Nodup := by
  unfold putP
  split
  · exact h
  · rename_i q
    refine List.nodup_append.mpr ⟨h, List.pairwise_singleton _ _, fun a ha b hb e => q ?_⟩
    rw [List.mem_singleton] at hb
    rw [← hb, ← e]
    exact ha
def putAll (t ps : List (Int × Int)) : List (Int × Int) := ps.foldl putP t
theorem mem_putAll : ∀ {ps t : List (Int × Int)} {q : Int × Int}, q ∈ putAll t ps ↔ q ∈ t ∨ q ∈ ps
  | [], t, q => by
    unfold putAll
    simp
  | p :: ps, t, q => by
    show q ∈ putAll (putP t p) ps ↔ _
    rw [mem_putAll, mem_putP, List.mem_cons]
    constructor
    · rintro ((h | h) | h)
      · exact .inl h
      · exact .inr (.inl h)
      · exact .inr (.inr h)
    · rintro (h | h | h)
      · exact .inl (.inl h)
      · exact .inl (.inr h)
      · exact .inr h
theorem nodup_putAll : ∀ {ps t : List (Int × Int)}, t.Nodup → (putAll t ps).Nodup
  | [], _, h => h
  | p :: ps, t, h => by
    show (putAll (putP t p) ps).Nodup
    exact nodup_putAll (nodup_putP h)
def stepH (m l : Int) (t : List (Int × Int)) (h : Int) : List (Int × Int) := if (l, m) ∈ t ∧ (m, h) ∈ t then putP t (l, h) else t
def stepL (n : Nat) (m : Int) (t : List (Int × Int)) (l : Int) : List (Int × Int) := (rngI (m + 1) ((n : Int) + 1)).foldl (stepH m l) t
def stepM (n : Nat) (t : List (Int × Int)) (m : Int) : List (Int × Int) := (rngI 1 m).foldl (stepL n m) t
def closure (n : Nat) (t : List (Int × Int)) : List (Int × Int) := (rngI 2 (n : Int)).foldl (stepM n) t

theorem nodup_stepH {m l h : Int} {t : List (Int × Int)} (nd : t.Nodup) : (stepH m l t h).Nodup := by
  unfold stepH
  split
  · exact nodup_putP nd
  · exact nd
theorem nodup_foldl {α : Type} {f : List (Int × Int) → α → List (Int × Int)} (hf : ∀ t x, t.Nodup → (f t x).Nodup) : ∀ (xs : List α) {t : List (Int × Int)}, t.Nodup → (xs.foldl f t).Nodup
  | [], _, h => h
  | x :: xs, t, h => nodup_foldl hf xs (hf t x h)
theorem nodup_stepL {n : Nat} {m l : Int} {t : List (Int × Int)} (nd : t.Nodup) : (stepL n m t l).Nodup := nodup_foldl (fun _ _ h => nodup_stepH h) _ nd
theorem nodup_stepM {n : Nat} {m : Int} {t : List (Int × Int)} (nd : t.Nodup) : (stepM n t m).Nodup := nodup_foldl (fun _ _ h => nodup_stepL h) _ nd
theorem nodup_closure {n : Nat} {t : List (Int × Int)} (nd : t.Nodup) : (closure n t).Nodup := nodup_foldl (fun _ _ h => nodup_stepM h) _ nd

theorem mem_foldH {m l : Int} (hl : l < m) : ∀ (hs : List Int) (t : List (Int × Int)), (∀ h ∈ hs, m < h) → ∀ x y, (x, y) ∈ hs.foldl (stepH m l) t ↔ (x, y) ∈ t ∨ (x = l ∧ y ∈ hs ∧ (l, m) ∈ t ∧ (m, y) ∈ t)
  | [], t, _, x, y => by simp
  | h :: hs, t, hh, x, y => by
    have hm : m < h := hh h List.mem_cons_self
    rw [List.foldl_cons, mem_foldH hl hs _ (fun k hk => hh k (List.mem_cons_of_mem _ hk))]
    have a1 : ∀ p : Int × Int, p ≠ (l, h) → (p ∈ stepH m l t h ↔ p ∈ t) := fun p np => by
      unfold stepH
      split
      · rw [mem_putP]
        exact ⟨fun z => z.resolve_right np, .inl⟩
      · exact Iff.rfl
    have a2 : (l, h) ∈ stepH m l t h ↔ (l, h) ∈ t ∨ ((l, m) ∈ t ∧ (m, h) ∈ t) := by
      unfold stepH
      split
      · rename_i q
        rw [mem_putP]
        exact ⟨fun _ => .inr q, fun _ => .inr rfl⟩
      · rename_i q
        exact ⟨.inl, fun z => z.resolve_right q⟩
    rw [a1 (l, m) (fun e => by injection e; omega), a1 (m, y) (fun e => by injection e; omega), List.mem_cons]
    by_cases e : (x, y) = (l, h)
    · injection e with e1 e2
      subst e1 e2
      rw [a2]
      constructor
      · rintro ((q | q) | q)
        · exact .inl q
        · exact .inr ⟨rfl, .inl rfl, q⟩
        · exact .inr ⟨rfl, .inr q.2.1, q.2.2⟩
      · rintro (q | q)
        · exact .inl (.inl q)
        · exact .inl (.inr q.2.2)
    · rw [a1 (x, y) e]
      constructor
      · rintro (q | q)
        · exact .inl q
        · exact .inr ⟨q.1, .inr q.2.1, q.2.2⟩
      · rintro (q | ⟨q1, q2 | q2, q3⟩)
        · exact .inl q
        · exact absurd (by rw [q1, q2]) e
        · exact .inr ⟨q1, q2, q3⟩
theorem mem_stepL {n : Nat} {m l : Int} (hl : l < m) (t : List (Int × Int)) (x y : Int) : (x, y) ∈ stepL n m t l ↔ (x, y) ∈ t ∨ (x = l ∧ (m < y ∧ y ≤ (n : Int)) ∧ (l, m) ∈ t ∧ (m, y) ∈ t) := by
  unfold stepL
  rw [mem_foldH hl _ _ (fun h hh => by have := mem_rngI.mp hh; omega), mem_rngI]
  constructor
  · rintro (q | ⟨q1, q2, q3⟩)
    · exact .inl q
    · exact .inr ⟨q1, by omega, q3⟩
  · rintro (q | ⟨q1, q2, q3⟩)
    · exact .inl q
    · exact .inr ⟨q1, by omega, q3⟩
theorem mem_foldL {n : Nat} {m : Int} : ∀ (ls : List Int) (t : List (Int × Int)), (∀ l ∈ ls, l < m) → ∀ x y, (x, y) ∈ ls.foldl (stepL n m) t ↔ (x, y) ∈ t ∨ (x ∈ ls ∧ (m < y ∧ y ≤ (n : Int)) ∧ (x, m) ∈ t ∧ (m, y) ∈ t)
  | [], t, _, x, y => by simp
  | l :: ls, t, hh, x, y => by
    have hm : l < m := hh l List.mem_cons_self
    rw [List.foldl_cons, mem_foldL ls _ (fun k hk => hh k (List.mem_cons_of_mem _ hk)), mem_stepL hm, mem_stepL hm, mem_stepL hm, List.mem_cons]
    constructor
    · rintro ((q | ⟨rfl, q2, q3⟩) | ⟨q1, q2, q3, q4⟩)
      · exact .inl q
      · exact .inr ⟨.inl rfl, q2, q3⟩
      · refine .inr ⟨.inr q1, q2, q3.resolve_right (fun z => ?_), q4.resolve_right (fun z => ?_)⟩
        · omega
        · omega
    · rintro (q | ⟨q1 | q1, q2, q3, q4⟩)
      · exact .inl (.inl q)
      · subst q1
        exact .inl (.inr ⟨rfl, q2, q3, q4⟩)
      · exact .inr ⟨q1, q2, .inl q3, .inl q4⟩
def InB (n : Nat) (t : List (Int × Int)) : Prop := ∀ a b, (a, b) ∈ t → 1 ≤ a ∧ a < b ∧ b ≤ (n : Int)
theorem mem_stepM {n : Nat} {m : Int} {t : List (Int × Int)} (hb : InB n t) (x y : Int) : (x, y) ∈ stepM n t m ↔ (x, y) ∈ t ∨ ((x, m) ∈ t ∧ (m, y) ∈ t) := by
  unfold stepM
  rw [mem_foldL _ _ (fun l hl => (mem_rngI.mp hl).2), mem_rngI]
  constructor
  · rintro (q | ⟨_, _, q⟩)
    · exact .inl q
    · exact .inr q
  · rintro (q | ⟨q1, q2⟩)
    · exact .inl q
    · have b1 := hb _ _ q1
      have b2 := hb _ _ q2
      exact .inr ⟨by omega, by omega, q1, q2⟩
structure Upto (n : Nat) (t0 : List (Int × Int)) (M : Int) (t : List (Int × Int)) : Prop where
  inb : InB n t
  sup : ∀ a b, (a, b) ∈ t0 → (a, b) ∈ t
  cl : ∀ k, k < M → ∀ x y, (x, k) ∈ t → (k, y) ∈ t → (x, y) ∈ t
  least : ∀ S : Int → Int → Prop, (∀ a b c, S a b → S b c → S a c) → (∀ a b, (a, b) ∈ t0 → S a b) → ∀ a b, (a, b) ∈ t → S a b
theorem upto_fold {n : Nat} {t0 : List (Int × Int)} : ∀ (k : Nat) (M : Int) {t : List (Int × Int)}, Upto n t0 M t → Upto n t0 (M + k) ((rngI M (M + k)).foldl (stepM n) t)
  | 0, M, t, h => by
    rw [rngI_nil (by omega)]
    have e : M + ((0 : Nat) : Int) = M := by omega
    rw [e]
    exact h
  | k + 1, M, t, h => by
    have e : M + ((k + 1 : Nat) : Int) = M + 1 + (k : Nat) := by omega
    rw [e, rngI_cons (by omega), List.foldl_cons]
    refine upto_fold k (M + 1) ⟨fun a b q => ?_, fun a b q => ?_, fun j hj x y h1 h2 => ?_, fun S tr h0 a b q => ?_⟩
    · rcases (mem_stepM h.inb a b).mp q with q | ⟨q1, q2⟩
      · exact h.inb a b q
      · have b1 := h.inb _ _ q1
        have b2 := h.inb _ _ q2
        omega
    · exact (mem_stepM h.inb a b).mpr (.inl (h.sup a b q))
    · rw [mem_stepM h.inb] at h1 h2 ⊢
      by_cases e : j = M
      · subst e
        rcases h1 with h1 | ⟨_, h1⟩
        · rcases h2 with h2 | ⟨h2, _⟩
          · exact .inr ⟨h1, h2⟩
          · have := h.inb _ _ h2
            omega
        · have := h.inb _ _ h1
          omega
      · have hj' : j < M := by omega
        rcases h1 with h1 | ⟨_, h1⟩
        · rcases h2 with h2 | ⟨h2, h3⟩
          · exact .inl (h.cl j hj' x y h1 h2)
          · exact .inr ⟨h.cl j hj' x M h1 h2, h3⟩
        · have := h.inb _ _ h1
          omega
    · rcases (mem_stepM h.inb a b).mp q with q | ⟨q1, q2⟩
      · exact h.least S tr h0 a b q
      · exact tr a M b (h.least S tr h0 _ _ q1) (h.least S tr h0 _ _ q2)
theorem upto_closure {n : Nat} {t0 : List (Int × Int)} (hb : InB n t0) : Upto n t0 (n : Int) (closure n t0) := by
  have h0 : Upto n t0 2 t0 := ⟨hb, fun _ _ q => q, fun k hk x y h1 h2 => by
    have b1 := hb _ _ h1
    omega, fun S _ h a b q => h a b q⟩
  by_cases h2 : 2 ≤ (n : Int)
  · have q := upto_fold (n - 2) 2 h0
    have e : (2 : Int) + ((n - 2 : Nat) : Int) = (n : Int) := by omega
    rw [e] at q
    exact q
  · unfold closure
    rw [rngI_nil (by omega)]
    refine ⟨h0.inb, h0.sup, fun k hk x y h1 _ => ?_, h0.least⟩
    have b1 := hb _ _ h1
    omega
theorem closure_tr {n : Nat} {t0 : List (Int × Int)} (hb : InB n t0) {x k y : Int} (h1 : (x, k) ∈ closure n t0) (h2 : (k, y) ∈ closure n t0) : (x, y) ∈ closure n t0 := by
  have U := upto_closure hb
  have b2 := U.inb _ _ h2
  exact U.cl k (by omega) x y h1 h2

def Le (r s : List Int) : Prop := ∀ a b, Inv r a b → Inv s a b
theorem Le.refl (r : List Int) : Le r r := fun _ _ h => h
theorem Le.trans {r s t : List Int} (h1 : Le r s) (h2 : Le s t) : Le r t := fun a b h => h2 a b (h1 a b h)
theorem Le.anti {n : Nat} {r s : List Int} (R : Row n r) (S : Row n s) (h1 : Le r s) (h2 : Le s r) : r = s := row_ext R S fun a b => ⟨h1 a b, h2 a b⟩
/-- the pairs that are turned in one of both -/
def uni (r s : List Int) : List (Int × Int) := putAll [] (tp r ++ tp s)
theorem nodup_uni (r s : List Int) : (uni r s).Nodup := nodup_putAll List.nodup_nil
section
variable {n : Nat} {r s d : List Int}
theorem mem_uni (R : Row n r) (S : Row n s) (a b : Int) : (a, b) ∈ uni r s ↔ Inv r a b ∨ Inv s a b := by
  unfold uni
  rw [mem_putAll, List.mem_append, mem_tp R.nodup, mem_tp S.nodup]
  simp
theorem inb_uni (R : Row n r) (S : Row n s) : InB n (uni r s) := fun a b h => by
  rcases (mem_uni R S a b).mp h with h | h
  · exact h.bounds R
  · exact h.bounds S
def clT (n : Nat) (r s : List Int) : Int → Int → Bool := fun a b => decide ((a, b) ∈ closure n (uni r s))
theorem clo_clT (R : Row n r) (S : Row n s) : Clo n (clT n r s) := by
  have U := upto_closure (inb_uni R S)
  have tr : ∀ x k y, (x, k) ∈ closure n (uni r s) → (k, y) ∈ closure n (uni r s) → (x, y) ∈ closure n (uni r s) := fun x k y => closure_tr (inb_uni R S)
  refine ⟨fun a b h => U.inb a b (of_decide_eq_true h), fun a b c h1 h2 => decide_eq_true (tr a b c (of_decide_eq_true h1) (of_decide_eq_true h2)), fun a b c h h1 h2 => ?_⟩
  have key := U.least (fun x y => (x, y) ∈ closure n (uni r s) ∧ ∀ k, x < k → k < y → (x, k) ∈ closure n (uni r s) ∨ (k, y) ∈ closure n (uni r s)) ?_ ?_ a c (of_decide_eq_true h)
  · rcases key.2 b h1 h2 with q | q
    · exact .inl (decide_eq_true q)
    · exact .inr (decide_eq_true q)
  · rintro x y z ⟨p1, p2⟩ ⟨q1, q2⟩
    refine ⟨tr _ _ _ p1 q1, fun k k1 k2 => ?_⟩
    rcases Int.lt_trichotomy k y with e | e | e
    · rcases p2 k k1 e with w | w
      · exact .inl w
      · exact .inr (tr _ _ _ w q1)
    · rw [e]
      exact .inl p1
    · rcases q2 k e k2 with w | w
      · exact .inl (tr _ _ _ p1 w)
      · exact .inr w
  · intro x y h
    refine ⟨U.sup _ _ h, fun k k1 k2 => ?_⟩
    rcases (mem_uni R S x y).mp h with q | q
    · rcases inv_co R q k1 k2 with w | w
      · exact .inl (U.sup _ _ ((mem_uni R S _ _).mpr (.inl w)))
      · exact .inr (U.sup _ _ ((mem_uni R S _ _).mpr (.inl w)))
    · rcases inv_co S q k1 k2 with w | w
      · exact .inl (U.sup _ _ ((mem_uni R S _ _).mpr (.inr w)))
      · exact .inr (U.sup _ _ ((mem_uni R S _ _).mpr (.inr w)))
/-- the join -/
def jn (r s : List Int) : List Int := rowT r.length (clT r.length r s)
theorem jn_row (R : Row n r) : Row n (jn r s) := by
  unfold jn
  rw [R.len]
  exact rowT_row
theorem jn_inv (R : Row n r) (S : Row n s) (a b : Int) : Inv (jn r s) a b ↔ (a, b) ∈ closure n (uni r s) := by
  unfold jn
  rw [R.len, rowT_inv (clo_clT R S)]
  exact decide_eq_true_iff
theorem jn_left (R : Row n r) (S : Row n s) : Le r (jn r s) := fun a b h => (jn_inv R S a b).mpr ((upto_closure (inb_uni R S)).sup a b ((mem_uni R S a b).mpr (.inl h)))
theorem jn_right (R : Row n r) (S : Row n s) : Le s (jn r s) := fun a b h => (jn_inv R S a b).mpr ((upto_closure (inb_uni R S)).sup a b ((mem_uni R S a b).mpr (.inr h)))
theorem jn_least (R : Row n r) (S : Row n s) (h1 : Le r d) (h2 : Le s d) : Le (jn r s) d := fun a b h => by
  refine (upto_closure (inb_uni R S)).least (fun x y => Inv d x y) (fun _ _ _ => inv_trans) (fun x y q => ?_) a b ((jn_inv R S a b).mp h)
  rcases (mem_uni R S x y).mp q with q | q
  · exact h1 x y q
  · exact h2 x y q
/-- what row_with makes of the pairs that follow -/
theorem jn_sorted (R : Row n r) (S : Row n s) {out : List Int} {t : List (Int × Int)} (ht : ∀ p, p ∈ t ↔ p ∈ closure n (uni r s)) (hp : out.Perm (rng n))
    (hs : out.Pairwise fun x y => ahead (fun a b => decide ((a, b) ∈ t)) n x ≤ ahead (fun a b => decide ((a, b) ∈ t)) n y) : out = jn r s :=
  sorted_row (jn_row R) (fun a b => by rw [jn_inv R S, decide_eq_true_iff, ht]) hp hs
end
end Sw

set_option linter.all false
namespace Sw
section
variable {n : Nat} {r s c d : List Int} {a b x y : Int}
/-- told by an order in which the whole row stands -/
theorem bef_iff_pw {R : Int → Int → Prop} (nd : r.Nodup) (h : r.Pairwise R) (as : ∀ x y, R x y → R y x → False) (hx : x ∈ r) (hy : y ∈ r) (ne : x ≠ y) : Bef r x y ↔ R x y := by
  refine ⟨pw_idx h, fun q => ?_⟩
  rcases bef_total hx hy ne with z | z
  · exact z
  · exact (as _ _ q (pw_idx h z)).elim

theorem rev_row (R : Row n r) : Row n r.reverse := ⟨(List.reverse_perm r).trans R.perm⟩
theorem bef_rev (R : Row n r) : Bef r.reverse x y ↔ Bef r y x := by
  have pw : r.reverse.Pairwise fun x y => Bef r y x := List.pairwise_reverse.mpr (pairwise_bef R.nodup)
  refine ⟨pw_idx pw, fun q => ?_⟩
  have hx : x ∈ r.reverse := List.mem_reverse.mpr q.2
  have hy : y ∈ r.reverse := List.mem_reverse.mpr q.left
  exact (bef_iff_pw (rev_row R).nodup pw (fun _ _ h1 h2 => h1.asymm h2) hx hy (fun e => q.ne e.symm)).mpr q
theorem inv_rev (R : Row n r) : Inv r.reverse a b ↔ (1 ≤ a ∧ a < b ∧ b ≤ (n : Int)) ∧ ¬ Inv r a b := by
  constructor
  · intro h
    refine ⟨h.bounds (rev_row R), fun q => ?_⟩
    exact ((bef_rev R).mp h.2).asymm q.2
  · rintro ⟨⟨h1, h2, h3⟩, q⟩
    refine ⟨h2, (bef_rev R).mpr ?_⟩
    have ha : a ∈ r := R.mem.mpr (by omega)
    have hb : b ∈ r := R.mem.mpr (by omega)
    rcases bef_total ha hb (by omega) with z | z
    · exact z
    · exact absurd ⟨h2, z⟩ q

def ren (r : List Int) : List Int := r.map fun x => (r.length : Int) + 1 - x
theorem ren_row (R : Row n r) : Row n (ren r) := by
  have hl := R.len
  refine Row.of ?_ fun x => ?_
  · unfold ren
    exact List.Pairwise.map _ (R := fun i j => i ≠ j) (fun i j q e => q (by omega)) R.nodup
  · unfold ren
    rw [List.mem_map, hl]
    constructor
    · rintro ⟨y, hy, rfl⟩
      have := R.mem.mp hy
      omega
    · intro h
      exact ⟨(n : Int) + 1 - x, R.mem.mpr (by omega), by omega⟩
theorem ren_len : (ren r).length = r.length := by
  unfold ren
  rw [List.length_map]
theorem bef_ren (R : Row n r) : Bef (ren r) x y ↔ Bef r ((n : Int) + 1 - x) ((n : Int) + 1 - y) := by
  have hl := R.len
  have pw : (ren r).Pairwise fun x y => Bef r ((n : Int) + 1 - x) ((n : Int) + 1 - y) := by
    unfold ren
    rw [List.pairwise_map]
    refine (pairwise_bef R.nodup).imp fun {a b} h => ?_
    have e1 : (n : Int) + 1 - ((r.length : Int) + 1 - a) = a := by omega
    have e2 : (n : Int) + 1 - ((r.length : Int) + 1 - b) = b := by omega
    rw [e1, e2]
    exact h
  refine ⟨pw_idx pw, fun q => ?_⟩
  have m1 := R.mem.mp q.left
  have m2 := R.mem.mp q.2
  have hx : x ∈ ren r := (ren_row R).mem.mpr (by omega)
  have hy : y ∈ ren r := (ren_row R).mem.mpr (by omega)
  exact (bef_iff_pw (ren_row R).nodup pw (fun _ _ h1 h2 => h1.asymm h2) hx hy (fun e => q.ne (by rw [e]))).mpr q
theorem inv_ren (R : Row n r) : Inv (ren r) a b ↔ (1 ≤ a ∧ a < b ∧ b ≤ (n : Int)) ∧ ¬ Inv r ((n : Int) + 1 - b) ((n : Int) + 1 - a) := by
  constructor
  · intro h
    refine ⟨h.bounds (ren_row R), fun q => ?_⟩
    exact ((bef_ren R).mp h.2).asymm q.2
  · rintro ⟨⟨h1, h2, h3⟩, q⟩
    refine ⟨h2, (bef_ren R).mpr ?_⟩
    have ha : (n : Int) + 1 - a ∈ r := R.mem.mpr (by omega)
    have hb : (n : Int) + 1 - b ∈ r := R.mem.mpr (by omega)
    rcases bef_total hb ha (by omega) with z | z
    · exact z
    · exact absurd ⟨by omega, z⟩ q
theorem ren_ren : ren (ren r) = r := by
  unfold ren
  rw [List.map_map, List.length_map]
  have e : ((fun x : Int => (r.length : Int) + 1 - x) ∘ fun x => (r.length : Int) + 1 - x) = id := by
    funext x
    show (r.length : Int) + 1 - ((r.length : Int) + 1 - x) = x
    omega
  rw [e, List.map_id]
theorem rev_ren : (ren r).reverse = ren r.reverse := by
  unfold ren
  rw [List.map_reverse, List.length_reverse]

structure Anti (n : Nat) (φ : List Int → List Int) : Prop where
  row : ∀ {r}, Row n r → Row n (φ r)
  inv : ∀ {r}, Row n r → φ (φ r) = r
  le : ∀ {r s}, Row n r → Row n s → Le r s → Le (φ s) (φ r)
theorem anti_rev : Anti n List.reverse := ⟨rev_row, fun _ => List.reverse_reverse _, fun R S h a b q => by
  rw [inv_rev S] at q
  rw [inv_rev R]
  exact ⟨q.1, fun z => q.2 (h a b z)⟩⟩
theorem anti_ren : Anti n ren := ⟨ren_row, fun _ => ren_ren, fun R S h a b q => by
  rw [inv_ren S] at q
  rw [inv_ren R]
  exact ⟨q.1, fun z => q.2 (h _ _ z)⟩⟩
theorem Anti.iff {φ : List Int → List Int} (A : Anti n φ) (R : Row n r) (S : Row n s) : Le r s ↔ Le (φ s) (φ r) := by
  refine ⟨A.le R S, fun h => ?_⟩
  have q := A.le (A.row S) (A.row R) h
  rw [A.inv R, A.inv S] at q
  exact q

def mt (r s : List Int) : List Int := (jn r.reverse s.reverse).reverse
theorem mt_row (R : Row n r) : Row n (mt r s) := rev_row (jn_row (rev_row R))
theorem mt_left (R : Row n r) (S : Row n s) : Le (mt r s) r := by
  have q := anti_rev.le (rev_row R) (jn_row (rev_row R)) (jn_left (rev_row R) (rev_row S))
  rw [List.reverse_reverse] at q
  exact q
theorem mt_right (R : Row n r) (S : Row n s) : Le (mt r s) s := by
  have q := anti_rev.le (rev_row S) (jn_row (rev_row R)) (jn_right (rev_row R) (rev_row S))
  rw [List.reverse_reverse] at q
  exact q
theorem mt_greatest (R : Row n r) (S : Row n s) (D : Row n d) (h1 : Le d r) (h2 : Le d s) : Le d (mt r s) := by
  have q := jn_least (rev_row R) (rev_row S) (anti_rev.le D R h1) (anti_rev.le D S h2)
  have w := anti_rev.le (jn_row (rev_row R)) (rev_row D) q
  rw [List.reverse_reverse] at w
  exact w
/-- the one least, the one greatest -/
theorem jn_uniq (R : Row n r) (S : Row n s) (C : Row n c) (h1 : Le r c) (h2 : Le s c) (h3 : ∀ d, Row n d → Le r d → Le s d → Le c d) : jn r s = c :=
  Le.anti (jn_row R) C (jn_least R S h1 h2) (h3 _ (jn_row R) (jn_left R S) (jn_right R S))
theorem mt_uniq (R : Row n r) (S : Row n s) (C : Row n c) (h1 : Le c r) (h2 : Le c s) (h3 : ∀ d, Row n d → Le d r → Le d s → Le d c) : mt r s = c :=
  Le.anti (mt_row R) C (h3 _ (mt_row R) (mt_left R S) (mt_right R S)) (mt_greatest R S C h1 h2)
theorem Anti.of_jn {φ : List Int → List Int} (A : Anti n φ) (R : Row n r) (S : Row n s) : φ (jn r s) = mt (φ r) (φ s) := by
  refine (mt_uniq (A.row R) (A.row S) (A.row (jn_row R)) (A.le R (jn_row R) (jn_left R S)) (A.le S (jn_row R) (jn_right R S)) fun d D h1 h2 => ?_).symm
  have q1 := A.le D (A.row R) h1
  have q2 := A.le D (A.row S) h2
  rw [A.inv R] at q1
  rw [A.inv S] at q2
  have q := A.le (jn_row R) (A.row D) (jn_least R S q1 q2)
  rw [A.inv D] at q
  exact q
theorem Anti.of_mt {φ : List Int → List Int} (A : Anti n φ) (R : Row n r) (S : Row n s) : φ (mt r s) = jn (φ r) (φ s) := by
  have q := A.of_jn (A.row R) (A.row S)
  rw [A.inv R, A.inv S] at q
  rw [← q, A.inv (jn_row (A.row R))]
theorem jn_comm (R : Row n r) (S : Row n s) : jn r s = jn s r := jn_uniq R S (jn_row S) (jn_right S R) (jn_left S R) fun d D h1 h2 => jn_least S R h2 h1
theorem mt_comm (R : Row n r) (S : Row n s) : mt r s = mt s r := mt_uniq R S (mt_row S) (mt_right S R) (mt_left S R) fun d D h1 h2 => mt_greatest S R D h2 h1
theorem jn_assoc (R : Row n r) (S : Row n s) (C : Row n c) : jn (jn r s) c = jn r (jn s c) :=
  jn_uniq (jn_row R) C (jn_row R) (jn_least R S (jn_left R (jn_row S)) ((jn_left S C).trans (jn_right R (jn_row S)))) ((jn_right S C).trans (jn_right R (jn_row S)))
    fun d D h1 h2 => jn_least R (jn_row S) ((jn_left R S).trans h1) (jn_least S C ((jn_right R S).trans h1) h2)
theorem mt_assoc (R : Row n r) (S : Row n s) (C : Row n c) : mt (mt r s) c = mt r (mt s c) :=
  mt_uniq (mt_row R) C (mt_row R) (mt_greatest R S (mt_row R) (mt_left R (mt_row S)) ((mt_right R (mt_row S)).trans (mt_left S C))) ((mt_right R (mt_row S)).trans (mt_right S C))
    fun d D h1 h2 => mt_greatest R (mt_row S) D (h1.trans (mt_left R S)) (mt_greatest S C D (h1.trans (mt_right R S)) h2)
theorem jn_same (R : Row n r) : jn r r = r := jn_uniq R R R (Le.refl r) (Le.refl r) fun d D h1 _ => h1
theorem mt_same (R : Row n r) : mt r r = r := mt_uniq R R R (Le.refl r) (Le.refl r) fun d D h1 _ => h1
theorem jn_of_le (R : Row n r) (S : Row n s) : jn r s = s ↔ Le r s :=
  ⟨fun e => e ▸ jn_left R S, fun h => jn_uniq R S S h (Le.refl s) fun d D _ h2 => h2⟩
theorem mt_of_le (R : Row n r) (S : Row n s) : mt r s = r ↔ Le r s :=
  ⟨fun e => by
    have q := mt_right R S
    rw [e] at q
    exact q, fun h => mt_uniq R S R (Le.refl r) h fun d D h1 _ => h1⟩
theorem jn_mt (R : Row n r) (S : Row n s) : jn r (mt r s) = r := by
  rw [jn_comm R (mt_row R)]
  exact (jn_of_le (mt_row R) R).mpr (mt_left R S)
theorem mt_jn (R : Row n r) (S : Row n s) : mt r (jn r s) = r := (mt_of_le R (jn_row R)).mpr (jn_left R S)

def bl (r s : List Int) : Bool := (tp r).all fun p => decide (p ∈ tp s)
theorem bl_iff (R : Row n r) (S : Row n s) : bl r s = true ↔ Le r s := by
  unfold bl
  rw [List.all_eq_true]
  constructor
  · intro h a b q
    exact (mem_tp S.nodup a b).mp (of_decide_eq_true (h (a, b) ((mem_tp R.nodup a b).mpr q)))
  · rintro h ⟨a, b⟩ q
    exact decide_eq_true ((mem_tp S.nodup a b).mpr (h a b ((mem_tp R.nodup a b).mp q)))
theorem bl_eq {r' s' : List Int} (R : Row n r) (S : Row n s) (R' : Row n r') (S' : Row n s') (h : Le r s ↔ Le r' s') : bl r s = bl r' s' := by
  have e := (bl_iff R S).trans (h.trans (bl_iff R' S').symm)
  cases h1 : bl r s with
  | true => exact (e.mp h1).symm
  | false =>
    cases h2 : bl r' s' with
    | false => rfl
    | true => rw [e.mpr h2] at h1; cases h1
end
end Sw

set_option Elab.async false
set_option linter.all false
set_option maxRecDepth 100000
namespace Ed
open PySem PySem.Spec PyProof.Rows L2 LamX

abbrev Tbs := List (Addr × Str)
def Ex (G H : Hp) : Prop := ∀ a o, G a = some o → H a = some o
theorem Ex.refl (G : Hp) : Ex G G := fun _ _ h => h
theorem Ex.trans {A B C : Hp} (h1 : Ex A B) (h2 : Ex B C) : Ex A C := fun a o h => h2 a o (h1 a o h)
theorem Ex.new {G : Hp} {p : Addr} {o : HO} (h : G p = none) : Ex G (upd G p o) := fun b u e => by
  rw [upd_ne (ne_of_none e h)]
  exact e
/-- G is known of H: no table of code objects is in it; H's tables are in order -/
structure Kn (T : Tbs) (G H : Hp) : Prop where
  le : Ex G H
  nt : ∀ b ps, G b ≠ some (.tbl ps)
  tb : Tabs T H
/-- from known G, running G H to known G2, running H2 -/
structure Nx (T : Tbs) (G H G2 H2 : Hp) : Prop where
  ex : Ex G G2
  kn : Kn T G2 H2
  keep : ExtN H H2
  dom : ∀ a, H2 a = none → H a = none
  sep : ∀ a, G a = none → G2 a = none ∨ H a = none ∨ ∃ xs, H a = some (.tup xs)
  tbs : ∀ a ps, H a = some (.tbl ps) → ∃ ps2, H2 a = some (.tbl ps2)
section
variable {T : Tbs} {G H G1 H1 G2 H2 G3 H3 : Hp} {p : Addr} {o o' : HO}
theorem Nx.refl (k : Kn T G H) : Nx T G H G H := ⟨Ex.refl G, k, ExtN.refl H, fun _ h => h, fun _ h => .inl h, fun _ ps h => ⟨ps, h⟩⟩
theorem Nx.trans (m : Nx T G H G2 H2) (n : Nx T G2 H2 G3 H3) : Nx T G H G3 H3 := by
  refine ⟨m.ex.trans n.ex, n.kn, m.keep.trans n.keep, fun a h => m.dom a (n.dom a h), fun a h => ?_, fun a ps h => (m.tbs a ps h).elim fun ps2 h2 => n.tbs a ps2 h2⟩
  rcases m.sep a h with z | z | z
  · rcases n.sep a z with y | y | ⟨xs, y⟩
    · exact .inl y
    · exact .inr (.inl (m.dom a y))
    · cases q : H a with
      | none => exact .inr (.inl rfl)
      | some o =>
        by_cases t : ∃ ps, o = .tbl ps
        · obtain ⟨ps, rfl⟩ := t
          obtain ⟨ps2, h2⟩ := m.tbs a ps q
          rw [y] at h2
          cases h2
        · have h2 := m.keep a o q fun ps e => t ⟨ps, e⟩
          rw [y] at h2
          exact .inr (.inr ⟨xs, by rw [← h2]⟩)
  · exact .inr (.inl z)
  · exact .inr (.inr z)
theorem Nx.out (n : Nx T G H G2 H2) (hG : G p = none) (hp : H p = some o) (nt : ∀ xs, o ≠ .tup xs) : G2 p = none := (n.sep p hG).resolve_right fun z => by
  rcases z with z | ⟨xs, z⟩
  · rw [hp] at z
    cases z
  · rw [hp] at z
    exact nt xs (Option.some.inj z)
theorem Kn.none (k : Kn T G H) (h : H p = none) : G p = none := by
  cases e : G p with
  | none => rfl
  | some o =>
    rw [k.le p o e] at h
    cases h
theorem Kn.sub (k : Kn T G2 H) (e : Ex G G2) : Kn T G H := ⟨e.trans k.le, fun b ps z => k.nt b ps (e b _ z), k.tb⟩
/-- a new object, known from now on -/
theorem Nx.new (k : Kn T G H) (h : H p = Option.none) (nt : ∀ ps, o ≠ .tbl ps) : Nx T G H (upd G p o) (upd H p o) := by
  have hG := k.none h
  refine ⟨Ex.new hG, ⟨fun a u e => ?_, fun b ps e => ?_, k.tb.ext (Ex.new h)⟩, ExtN.of (Ex.new h), fun a e => ?_, fun a e => ?_, fun a ps e => ⟨ps, Ex.new h a _ e⟩⟩
  · by_cases ha : a = p
    · subst ha
      rw [upd_same] at e ⊢
      exact e
    · rw [upd_ne ha] at e ⊢
      exact k.le a u e
  · by_cases hb : b = p
    · subst hb
      rw [upd_same] at e
      exact nt ps (Option.some.inj e)
    · rw [upd_ne hb] at e
      exact k.nt b ps e
  · by_cases ha : a = p
    · subst ha
      exact h
    · rw [upd_ne ha] at e
      exact e
  · by_cases ha : a = p
    · subst ha
      exact .inr (.inl h)
    · rw [upd_ne ha]
      exact .inl e
/-- a new object that is to be changed yet -/
theorem Nx.fresh (k : Kn T G H) (h : H p = Option.none) : Nx T G H G (upd H p o) :=
  ⟨Ex.refl G, ⟨k.le.trans (Ex.new h), k.nt, k.tb.ext (Ex.new h)⟩, ExtN.of (Ex.new h), fun a e => by
    by_cases ha : a = p
    · subst ha
      exact h
    · rw [upd_ne ha] at e
      exact e, fun a e => .inl e, fun a ps e => ⟨ps, Ex.new h a _ e⟩⟩
def Soft : HO → Prop
  | .lst _ => True
  | .dK _ => True
  | .dT _ => True
  | .set _ _ => True
  | .ins _ _ _ => True
  | _ => False
theorem Tabs.mut (t : Tabs T H) (hp : H p = some o) (s : Soft o) : Tabs T (upd H p o') := fun q hq => by
  obtain ⟨ps, h1, h2, h3⟩ := t q hq
  have ne : ∀ {b u}, H b = some u → ¬ Soft u → b ≠ p := fun {b u} e ns z => by
    subst z
    rw [hp] at e
    cases e
    exact ns s
  refine ⟨ps, by rw [upd_ne (ne h1 id)]; exact h1, h2, fun pos cv hc => ?_⟩
  obtain ⟨c, e1, e2⟩ := h3 pos cv hc
  exact ⟨c, e1, by rw [upd_ne (ne e2 fun z => z)]; exact e2⟩
/-- an object that is not known yet is changed -/
theorem Nx.mut (n : Nx T G H G2 H2) (h0 : H p = Option.none) (hG : G2 p = Option.none) (hp : H2 p = some o) (s : Soft o) : Nx T G H G2 (upd H2 p o') :=
  ⟨n.ex, ⟨fun a u e => by
      rw [upd_ne (ne_of_none e hG)]
      exact n.kn.le a u e, n.kn.nt, Tabs.mut n.kn.tb hp s⟩, fun b u e ns => by
    rw [upd_ne (ne_of_none e h0)]
    exact n.keep b u e ns, fun a e => by
    by_cases ha : a = p
    · subst ha
      exact h0
    · rw [upd_ne ha] at e
      exact n.dom a e, n.sep, fun a ps e => (n.tbs a ps e).elim fun ps2 h2 => ⟨ps2, by
      have na : a ≠ p := fun z => by
        subst z
        rw [h0] at e
        cases e
      rw [upd_ne na]
      exact h2⟩⟩
theorem Kn.mut (k : Kn T G H) (hG : G p = Option.none) (hp : H p = some o) (s : Soft o) : Kn T G (upd H p o') :=
  ⟨fun a u e => by
    rw [upd_ne (ne_of_none e hG)]
    exact k.le a u e, k.nt, Tabs.mut k.tb hp s⟩
/-- an object is known from now on -/
theorem Kn.freeze (k : Kn T G H) (hp : H p = some o) (nt : ∀ ps, o ≠ .tbl ps) : Kn T (upd G p o) H :=
  ⟨fun a u e => by
    by_cases ha : a = p
    · subst ha
      rw [upd_same] at e
      rw [hp]
      exact e
    · rw [upd_ne ha] at e
      exact k.le a u e, fun b ps e => by
    by_cases hb : b = p
    · subst hb
      rw [upd_same] at e
      exact nt ps (Option.some.inj e)
    · rw [upd_ne hb] at e
      exact k.nt b ps e, k.tb⟩
theorem Nx.freeze (n : Nx T G H G2 H2) (h0 : H p = Option.none) (hG : G2 p = Option.none) (hp : H2 p = some o) (nt : ∀ ps, o ≠ .tbl ps) : Nx T G H (upd G2 p o) H2 :=
  ⟨n.ex.trans (Ex.new hG), n.kn.freeze hp nt, n.keep, n.dom, fun a e => by
    by_cases ha : a = p
    · subst ha
      exact .inr (.inl h0)
    · rw [upd_ne ha]
      exact n.sep a e, n.tbs⟩
def hid (p : Addr) (G : Hp) : Hp := fun a => if a = p then Option.none else G a
theorem hid_at : hid p G p = Option.none := if_pos rfl
theorem hid_ne {a : Addr} (h : a ≠ p) : hid p G a = G a := if_neg h
theorem hid_ex : Ex (hid p G) G := fun a o e => by
  by_cases h : a = p
  · subst h
    rw [hid_at] at e
    cases e
  · rw [hid_ne h] at e
    exact e
/-- what was known for a while is not any more -/
theorem Nx.hide (n : Nx T (upd G p o) H G2 H2) (hG : G p = Option.none) : Nx T G H (hid p G2) H2 :=
  ⟨fun a u e => by
    have ha : a ≠ p := ne_of_none e hG
    rw [hid_ne ha]
    exact n.ex a u (by rw [upd_ne ha]; exact e), n.kn.sub hid_ex, n.keep, n.dom, fun a e => by
    by_cases ha : a = p
    · subst ha
      exact .inl hid_at
    · rw [hid_ne ha]
      exact n.sep a (by rw [upd_ne ha]; exact e), n.tbs⟩
/-- the known parts of one moment together -/
def un (A B : Hp) : Hp := fun a => match A a with
  | some o => some o
  | Option.none => B a
theorem un_left : Ex A (un A B) := fun a o e => by
  unfold un
  rw [e]
theorem un_right (k : Ex A H) (k2 : Ex B H) : Ex B (un A B) := fun a o e => by
  unfold un
  cases h : A a with
  | none => exact e
  | some u => exact ((k a u h).symm.trans (k2 a o e))
theorem Nx.mono (n : Nx T G H G2 H2) (k : Kn T G1 H) (e : Ex G G1) : ∃ G3, Ex G2 G3 ∧ Nx T G1 H G3 H2 := by
  have k1 : Ex G1 H2 := fun a o h => n.keep a o (k.le a o h) fun ps z => k.nt a ps (by rw [h, z])
  refine ⟨un G1 G2, un_right k1 n.kn.le, un_left, ⟨fun a o h => ?_, fun b ps h => ?_, n.kn.tb⟩, n.keep, n.dom, fun a h => ?_, n.tbs⟩
  · unfold un at h
    cases q : G1 a with
    | none =>
      rw [q] at h
      exact n.kn.le a o h
    | some u =>
      rw [q] at h
      rw [← h]
      exact k1 a u q
  · unfold un at h
    cases q : G1 b with
    | none =>
      rw [q] at h
      exact n.kn.nt b ps h
    | some u =>
      rw [q] at h
      have h' : some u = some (HO.tbl ps) := h
      exact k.nt b ps (q.trans h')
  · unfold un
    rw [h]
    refine n.sep a ?_
    cases q : G a with
    | none => rfl
    | some u =>
      rw [e a u q] at h
      cases h
/-- tuples that stand may be known, too -/
theorem Nx.know (n : Nx T G H G2 H2) {B : Hp} (hB : ∀ a o, B a = some o → (∃ xs, o = .tup xs) ∧ H2 a = some o) : ∃ G3, Ex G2 G3 ∧ Ex B G3 ∧ Nx T G H G3 H2 := by
  have kB : Ex B H2 := fun a o e => (hB a o e).2
  refine ⟨un G2 B, un_left, un_right n.kn.le kB, ⟨n.ex.trans un_left, ⟨fun a o e => ?_, fun a ps e => ?_, n.kn.tb⟩, n.keep, n.dom, fun a e => ?_, n.tbs⟩⟩
  · unfold un at e
    cases q : G2 a with
    | none =>
      rw [q] at e
      exact kB a o e
    | some u =>
      rw [q] at e
      rw [← e]
      exact n.kn.le a u q
  · unfold un at e
    cases q : G2 a with
    | none =>
      rw [q] at e
      obtain ⟨⟨xs, z⟩, _⟩ := hB a _ e
      cases z
    | some u =>
      rw [q] at e
      have e' : some u = some (HO.tbl ps) := e
      exact n.kn.nt a ps (q.trans e')
  · unfold un
    cases q : G2 a with
    | some u =>
      rcases n.sep a e with z | z
      · rw [q] at z
        cases z
      · exact .inr z
    | none =>
      cases b : B a with
      | none => exact .inl rfl
      | some o =>
        obtain ⟨⟨xs, rfl⟩, h⟩ := hB a o b
        cases w : H a with
        | none => exact .inr (.inl rfl)
        | some u =>
          by_cases t : ∃ ps, u = .tbl ps
          · obtain ⟨ps, rfl⟩ := t
            obtain ⟨ps2, h2⟩ := n.tbs a ps w
            rw [h] at h2
            cases h2
          · have h2 := n.keep a u w fun ps z => t ⟨ps, z⟩
            rw [h] at h2
            exact .inr (.inr ⟨xs, by rw [← h2]⟩)
end

mutual
inductive Dq (G : Hp) : V → PyData → Prop
  | non : Dq G .non .none
  | bl (b : Bool) : Dq G (.bl b) (.bool b)
  | int (i : Int) : Dq G (.int i) (.int i)
  | str (x : Str) : Dq G (.str x) (.str x)
  | lst {a : Addr} {xs : List V} {ds : List PyData} : G a = some (.lst xs) → DqAll G xs ds → Dq G (.ref a) (.list ds)
  | tup {a : Addr} {xs : List V} {ds : List PyData} : G a = some (.tup xs) → DqAll G xs ds → Dq G (.ref a) (.tuple ds)
inductive DqAll (G : Hp) : List V → List PyData → Prop
  | nil : DqAll G [] []
  | cons {v : V} {vs : List V} {d : PyData} {ds : List PyData} : Dq G v d → DqAll G vs ds → DqAll G (v :: vs) (d :: ds)
end
section
variable {K : PySem.W.Frag} {G G2 : Hp}
mutual
theorem dp_of : ∀ {d : PyData} {v : V}, Dq G v d → Dp K G v d
  | _, _, .non => .non
  | _, _, .bl b => .bl b
  | _, _, .int i => .int i
  | _, _, .str x => .str x
  | _, _, .lst h a => .lst (.inl (.inl h)) (da_of a)
  | _, _, .tup h a => .tup (.inl (.inl h)) (da_of a)
theorem da_of : ∀ {ds : List PyData} {vs : List V}, DqAll G vs ds → DpAll K G vs ds
  | _, _, .nil => .nil
  | _, _, .cons h t => .cons (dp_of h) (da_of t)
end
theorem sl_ex {a : Addr} {xs : List V} (e : Ex G G2) (h : SqL K G a xs) : SqL K G2 a xs := by
  rcases h with (h | ⟨o, h⟩) | h
  · exact .inl (.inl (e _ _ h))
  · exact .inl (.inr ⟨o, e _ _ h⟩)
  · exact .inr h
mutual
theorem dq_ex (e : Ex G G2) : ∀ {d : PyData} {v : V}, Dq G v d → Dq G2 v d
  | _, _, .non => .non
  | _, _, .bl b => .bl b
  | _, _, .int i => .int i
  | _, _, .str x => .str x
  | _, _, .lst h a => .lst (e _ _ h) (da_ex e a)
  | _, _, .tup h a => .tup (e _ _ h) (da_ex e a)
theorem da_ex (e : Ex G G2) : ∀ {ds : List PyData} {vs : List V}, DqAll G vs ds → DqAll G2 vs ds
  | _, _, .nil => .nil
  | _, _, .cons h t => .cons (dq_ex e h) (da_ex e t)
end
theorem da_len : ∀ {ds : List PyData} {vs : List V}, DqAll G vs ds → vs.length = ds.length
  | _, _, .nil => rfl
  | _, _, .cons _ t => congrArg Nat.succ (da_len t)
theorem da_at : ∀ {ds : List PyData} {vs : List V} {i : Nat} {v : V}, DqAll G vs ds → vs[i]? = some v → ∃ d, ds[i]? = some d ∧ Dq G v d
  | _, _, _, _, .nil, e => by simp at e
  | _, _, 0, _, .cons h _, e => ⟨_, rfl, by
    have z := Option.some.inj e
    rw [← z]
    exact h⟩
  | _, _, i + 1, _, .cons _ t, e => da_at (i := i) t (by simpa using e)
theorem da_at' : ∀ {ds : List PyData} {vs : List V} {i : Nat} {d : PyData}, DqAll G vs ds → ds[i]? = some d → ∃ v, vs[i]? = some v ∧ Dq G v d
  | _, _, _, _, .nil, e => by simp at e
  | _, _, 0, _, .cons h _, e => ⟨_, rfl, by
    have z := Option.some.inj e
    rw [← z]
    exact h⟩
  | _, _, i + 1, _, .cons _ t, e => da_at' (i := i) t (by simpa using e)
theorem da_app : ∀ {ds es : List PyData} {vs ws : List V}, DqAll G vs ds → DqAll G ws es → DqAll G (vs ++ ws) (ds ++ es)
  | _, _, _, _, .nil, h => h
  | _, _, _, _, .cons a t, h => .cons a (da_app t h)
theorem da_take : ∀ {ds : List PyData} {vs : List V} (n : Nat), DqAll G vs ds → DqAll G (vs.take n) (ds.take n)
  | _, _, 0, _ => .nil
  | _, _, _ + 1, .nil => .nil
  | _, _, n + 1, .cons a t => .cons a (da_take n t)
theorem da_drop : ∀ {ds : List PyData} {vs : List V} (n : Nat), DqAll G vs ds → DqAll G (vs.drop n) (ds.drop n)
  | _, _, 0, h => h
  | _, _, _ + 1, .nil => .nil
  | _, _, n + 1, .cons _ t => da_drop n t
theorem da_rev : ∀ {ds : List PyData} {vs : List V}, DqAll G vs ds → DqAll G vs.reverse ds.reverse
  | _, _, .nil => .nil
  | _, _, .cons a t => by
    rw [List.reverse_cons, List.reverse_cons]
    exact da_app (da_rev t) (.cons a .nil)
theorem da_erase : ∀ {ds : List PyData} {vs : List V} (n : Nat), DqAll G vs ds → DqAll G (vs.eraseIdx n) (ds.eraseIdx n)
  | _, _, _, .nil => .nil
  | _, _, 0, .cons _ t => t
  | _, _, n + 1, .cons a t => .cons a (da_erase n t)
theorem da_ints : ∀ (ns : List Int), DqAll G (ns.map V.int) (ns.map PyData.int)
  | [] => .nil
  | n :: ns => .cons (.int n) (da_ints ns)
theorem da_ints_eq : ∀ {ns : List Int} {vs : List V}, DqAll G vs (ns.map PyData.int) → vs = ns.map V.int
  | [], _, .nil => rfl
  | n :: ns, _, .cons h t => by
    cases h
    rw [da_ints_eq t]
    rfl
theorem da_bools_eq : ∀ {ns : List Bool} {vs : List V}, DqAll G vs (ns.map PyData.bool) → vs = ns.map V.bl
  | [], _, .nil => rfl
  | n :: ns, _, .cons h t => by
    cases h
    rw [da_bools_eq t]
    rfl
end
/-- a kind of data -/
class Enc (α : Type) where
  enc : α → PyData
  dep : Nat
  lay : ∀ x, (enc x).canLay0 = true
  deep : ∀ x, (enc x).depth ≤ dep
  same : ∀ x y, PyData.eqv (enc x) (enc y) = true ↔ x = y
open Enc (enc)
instance : Enc Int where
  enc := .int
  dep := 0
  lay := fun x => by simp [PyData.canLay0]
  deep := fun x => by simp [PyData.depth]
  same := fun x y => by simp [PyData.eqv]
instance : Enc Bool where
  enc := .bool
  dep := 0
  lay := fun x => by simp [PyData.canLay0]
  deep := fun x => by simp [PyData.depth]
  same := fun x y => by simp [PyData.eqv]
section
variable {α β : Type} [Enc α] [Enc β]
theorem lay_all : ∀ xs : List α, PyData.canLayAll0 (xs.map enc) = true
  | [] => by simp [PyData.canLayAll0]
  | x :: xs => by simp [PyData.canLayAll0, Enc.lay x, lay_all xs]
theorem deep_all : ∀ xs : List α, PyData.depthAll (xs.map enc) ≤ Enc.dep α
  | [] => by simp [PyData.depthAll]
  | x :: xs => by
    have h1 := Enc.deep x
    have h2 := deep_all xs
    simp only [List.map_cons, PyData.depthAll]
    omega
theorem same_all : ∀ xs ys : List α, PyData.eqvAll (xs.map enc) (ys.map enc) = true ↔ xs = ys
  | [], [] => by simp [PyData.eqvAll]
  | [], _ :: _ => by simp [PyData.eqvAll]
  | _ :: _, [] => by simp [PyData.eqvAll]
  | x :: xs, y :: ys => by
    simp only [List.map_cons, PyData.eqvAll, Bool.and_eq_true, Enc.same x y, same_all xs ys, List.cons.injEq]
instance : Enc (List α) where
  enc := fun xs => .list (xs.map enc)
  dep := Enc.dep α + 1
  lay := fun xs => by
    simp only [PyData.canLay0]
    exact lay_all xs
  deep := fun xs => by
    have := deep_all xs
    simp only [PyData.depth]
    omega
  same := fun xs ys => by
    simp only [PyData.eqv]
    exact same_all xs ys
instance : Enc (α × β) where
  enc := fun p => .tuple [enc p.1, enc p.2]
  dep := Enc.dep α + Enc.dep β + 1
  lay := fun p => by simp [PyData.canLay0, PyData.canLayAll0, Enc.lay p.1, Enc.lay p.2]
  deep := fun p => by
    have h1 := Enc.deep p.1
    have h2 := Enc.deep p.2
    simp only [PyData.depth, PyData.depthAll]
    omega
  same := fun p q => by
    obtain ⟨a, b⟩ := p
    obtain ⟨a', b'⟩ := q
    simp [PyData.eqv, PyData.eqvAll, Enc.same]
theorem shaped_enc (h : Enc.dep α ≤ 64) (x : α) : SeqAt.shaped (enc x) = true := by
  have h1 := Enc.deep x
  show ((enc x).canLay0 && decide ((enc x).depth ≤ 64)) = true
  rw [Enc.lay x, Bool.true_and]
  exact decide_eq_true (by omega)
theorem eqv_enc [DecidableEq α] (x y : α) : PyData.eqv (enc x) (enc y) = decide (x = y) := by
  have h := Enc.same x y
  by_cases e : x = y
  · rw [decide_eq_true e, h.mpr e]
  · rw [decide_eq_false e]
    cases q : PyData.eqv (enc x) (enc y) with
    | false => rfl
    | true => exact absurd (h.mp q) e
theorem any_enc [DecidableEq α] (x : α) : ∀ xs : List α, ((xs.map enc).any fun z => PyData.eqv z (enc x)) = decide (x ∈ xs)
  | [] => by simp
  | y :: ys => by
    rw [List.map_cons, List.any_cons, any_enc x ys, eqv_enc]
    by_cases e : y = x
    · subst e
      simp
    · have e' : ¬ x = y := fun z => e z.symm
      simp [e, e']
end
end Ed

set_option Elab.async false
set_option linter.all false
set_option maxRecDepth 100000
namespace Ed
open PySem PySem.Spec PyProof.Rows L2 LamX
open Ed.Enc (enc)

abbrev Rp := Hp → V → Prop
structure Mono (R : Rp) : Prop where
  ex : ∀ {G G2 : Hp} {v : V}, Ex G G2 → R G v → R G2 v
def IsD (d : PyData) : Rp := fun G v => Dq G v d
abbrev IsE {α : Type} [Enc α] (x : α) : Rp := IsD (enc x)
def IsV (x : V) : Rp := fun _ v => v = x
/-- a list of whole numbers from outside -/
def IsS (K : PySem.W.Frag) (ns : List Int) : Rp := fun G v => ∃ a, v = .ref a ∧ SqL K G a (ns.map V.int)
def keyP (p : Int × Int) : List Key := [.inl p.1, .inl p.2]
/-- a dict whose keys are pairs -/
def IsT (ps : List (Int × Int)) : Rp := fun G v => ∃ a kvs, v = .ref a ∧ G a = some (.dT kvs) ∧ kvs.map (·.1) = ps.map keyP
theorem isD_ex {d : PyData} : Mono (IsD d) := ⟨fun e h => dq_ex e h⟩
theorem isV_ex {x : V} : Mono (IsV x) := ⟨fun _ h => h⟩
theorem isS_ex {K : PySem.W.Frag} {ns : List Int} : Mono (IsS K ns) := ⟨fun e ⟨a, h1, h2⟩ => ⟨a, h1, sl_ex e h2⟩⟩
theorem isT_ex {ps : List (Int × Int)} : Mono (IsT ps) := ⟨fun e ⟨a, kvs, h1, h2, h3⟩ => ⟨a, kvs, h1, e _ _ h2, h3⟩⟩

def EvR (T : Tbs) (te : TE) (σ : L2.St) (G : Hp) (R : Rp) : Prop := ∀ H, Kn T G H → ∀ Q : VK, (∀ v G2 H2, Nx T G H G2 H2 → R G2 v → Q v H2) → te σ H Q
abbrev Ev (T : Tbs) {α : Type} [Enc α] (te : TE) (σ : L2.St) (G : Hp) (x : α) : Prop := EvR T te σ G (IsE x)
/-- a new list -/
def EvN (T : Tbs) {α : Type} [Enc α] (te : TE) (σ : L2.St) (G : Hp) (xs : List α) : Prop := ∀ H, Kn T G H → ∀ Q : VK,
  (∀ p vs G2 H2, Nx T G H G2 H2 → H p = none → G2 p = none → H2 p = some (.lst vs) → DqAll G2 vs (xs.map enc) → Q (.ref p) H2) → te σ H Q
def EvT (T : Tbs) (tt : TT) (σ : L2.St) (G : Hp) (b : Bool) : Prop := ∀ H, Kn T G H → ∀ Q : Bool → Hp → Prop, (∀ G2 H2, Nx T G H G2 H2 → Q b H2) → tt σ H Q
def AllR (G : Hp) : List V → List Rp → Prop
  | [], [] => True
  | v :: vs, R :: Rs => R G v ∧ AllR G vs Rs
  | _, _ => False
def EvA (T : Tbs) (ta : TA) (σ : L2.St) (G : Hp) (Rs : List Rp) : Prop := ∀ H, Kn T G H → ∀ Q : List V → Hp → Prop, (∀ vs G2 H2, Nx T G H G2 H2 → AllR G2 vs Rs → Q vs H2) → ta σ H Q
def MonoA : List Rp → Prop
  | [] => True
  | R :: Rs => Mono R ∧ MonoA Rs
theorem allR_ex {G G2 : Hp} (e : Ex G G2) : ∀ {Rs : List Rp} {vs : List V}, MonoA Rs → AllR G vs Rs → AllR G2 vs Rs
  | [], [], _, _ => True.intro
  | R :: Rs, v :: vs, m, h => ⟨m.1.ex e h.1, allR_ex e m.2 h.2⟩
  | [], _ :: _, _, h => h
  | _ :: _, [], _, h => h
theorem allR_len {G : Hp} : ∀ {Rs : List Rp} {vs : List V}, AllR G vs Rs → vs.length = Rs.length
  | [], [], _ => rfl
  | R :: Rs, v :: vs, h => congrArg Nat.succ (allR_len h.2)
  | [], _ :: _, h => h.elim
  | _ :: _, [], h => h.elim

section
variable {T : Tbs} {K : PySem.W.Frag} {σ : L2.St} {G G2 H : Hp} {ta tb tc te : TE} {t u : TT} {R R' R'' : Rp} {α β : Type} [Enc α] [Enc β] {x y : α}

theorem EvR.mono (m : Mono R) (h : EvR T te σ G R) (e : Ex G G2) : EvR T te σ G2 R := fun H k Q q => h H (k.sub e) Q fun v G3 H3 n r => by
  obtain ⟨G4, e4, n4⟩ := n.mono k e
  exact q v G4 H3 n4 (m.ex e4 r)
theorem EvT.mono {b : Bool} (h : EvT T t σ G b) (e : Ex G G2) : EvT T t σ G2 b := fun H k Q q => h H (k.sub e) Q fun G3 H3 n => by
  obtain ⟨G4, e4, n4⟩ := n.mono k e
  exact q G4 H3 n4
theorem EvA.mono {ta : TA} {Rs : List Rp} (m : MonoA Rs) (h : EvA T ta σ G Rs) (e : Ex G G2) : EvA T ta σ G2 Rs := fun H k Q q => h H (k.sub e) Q fun v G3 H3 n r => by
  obtain ⟨G4, e4, n4⟩ := n.mono k e
  exact q v G4 H3 n4 (allR_ex e4 m r)
theorem EvR.imp (h : EvR T te σ G R) (f : ∀ G v, R G v → R' G v) : EvR T te σ G R' := fun H k Q q => h H k Q fun v G2 H2 n r => q v G2 H2 n (f G2 v r)
theorem Ev.to (h : Ev T te σ G x) (e : x = y) : Ev T te σ G y := e ▸ h
theorem EvT.to {b c : Bool} (h : EvT T t σ G b) (e : b = c) : EvT T t σ G c := e ▸ h
theorem EvN.to {xs ys : List α} (h : EvN T te σ G xs) (e : xs = ys) : EvN T te σ G ys := e ▸ h
theorem EvN.ev {xs : List α} (h : EvN T te σ G xs) : Ev T te σ G xs := fun H k Q q => h H k Q fun p vs G2 H2 n h0 hG hp r =>
  q (.ref p) _ H2 (n.freeze h0 hG hp (fun ps z => by cases z)) (.lst upd_same (da_ex (Ex.new hG) r))
theorem EvN.mono {xs : List α} (h : EvN T te σ G xs) (e : Ex G G2) : EvN T te σ G2 xs := fun H k Q q => h H (k.sub e) Q fun p vs G3 H3 n h0 hG hp r => by
  have hG2 : G2 p = none := k.none h0
  have n' := n.freeze h0 hG hp (fun ps z => by cases z)
  obtain ⟨G4, e4, n4⟩ := n'.mono k e
  have hp4 : G4 p = some (.lst vs) := e4 p _ upd_same
  have r4 : DqAll G4 vs (xs.map enc) := da_ex ((Ex.new hG).trans e4) r
  have back : un (hid p G4) G3 p = none := by
    unfold un
    rw [hid_at]
    exact hG
  have le1 : Ex (hid p G4) H3 := hid_ex.trans n4.kn.le
  refine q p vs (un (hid p G4) G3) H3 ⟨fun a o ha => ?_, ⟨fun a o ha => ?_, fun b ps hb => ?_, n.kn.tb⟩, n.keep, n.dom, fun a ha => ?_, n.tbs⟩ h0 back hp (da_ex (un_right le1 n.kn.le) r)
  · have hne : a ≠ p := ne_of_none ha hG2
    unfold un
    rw [hid_ne hne, n4.ex a o ha]
  · unfold un at ha
    cases z : hid p G4 a with
    | none =>
      rw [z] at ha
      exact n.kn.le a o ha
    | some w =>
      rw [z] at ha
      rw [← ha]
      exact le1 a w z
  · unfold un at hb
    cases z : hid p G4 b with
    | none =>
      rw [z] at hb
      exact n.kn.nt b ps hb
    | some w =>
      rw [z] at hb
      have hb' : some w = some (HO.tbl ps) := hb
      exact n4.kn.nt b ps ((hid_ex b w z).trans hb')
  · unfold un
    have hGa : G a = none := by
      cases z : G a with
      | none => rfl
      | some w =>
        rw [e a w z] at ha
        cases ha
    cases z : hid p G4 a with
    | none => exact n.sep a hGa
    | some w =>
      rcases n4.sep a ha with s | s
      · rw [hid_ex a w z] at s
        cases s
      · exact .inr s

theorem ev_var {i : Nat} {v : V} (h : σ[i]? = some (some v)) (r : R G v) : EvR T (tVar i) σ G R := fun H k Q q => ⟨v, h, q v G H (Nx.refl k) r⟩
theorem ev_int {i : Int} : Ev T (tC (.int i)) σ G i := fun H k Q q => q _ G H (Nx.refl k) (.int i)
theorem ev_bool {b : Bool} : Ev T (tC (.bl b)) σ G b := fun H k Q q => q _ G H (Nx.refl k) (.bl b)
theorem ev_c {v : V} : EvR T (tC v) σ G (IsV v) := fun H k Q q => q _ G H (Nx.refl k) rfl

theorem ev_op {r : R2} (m : Mono R) (m' : Mono R') (ha : EvR T ta σ G R) (hb : EvR T tb σ G R') (hr : ∀ x y G1 H1, Ex G G1 → Kn T G1 H1 → R G1 x → R' G1 y → ∀ Q : VK, (∀ v G2 H2, Nx T G1 H1 G2 H2 → R'' G2 v → Q v H2) → r x y H1 Q) :
    EvR T (tOp r ta tb) σ G R'' := fun H k Q q => ha H k _ fun v G1 H1 n1 r1 => hb.mono m' n1.ex H1 n1.kn _ fun w G2 H2 n2 r2 =>
  hr v w G2 H2 (n1.ex.trans n2.ex) n2.kn (m.ex n2.ex r1) r2 Q fun z G3 H3 n3 r3 => q z G3 H3 ((n1.trans n2).trans n3) r3
theorem ev_un {r : V → Hp → VK → Prop} (ha : EvR T ta σ G R) (hr : ∀ x G1 H1, Ex G G1 → Kn T G1 H1 → R G1 x → ∀ Q : VK, (∀ v G2 H2, Nx T G1 H1 G2 H2 → R'' G2 v → Q v H2) → r x H1 Q) :
    EvR T (tUn r ta) σ G R'' := fun H k Q q => ha H k _ fun v G1 H1 n1 r1 => hr v G1 H1 n1.ex n1.kn r1 Q fun z G3 H3 n3 r3 => q z G3 H3 (n1.trans n3) r3
theorem dq_int {i : Int} {v : V} (h : IsE i G v) : v = .int i := by
  cases h
  rfl
theorem dq_bool {b : Bool} {v : V} (h : IsE b G v) : v = .bl b := by
  cases h
  rfl
theorem ev_i0 {f : Int → Int → Int} {i j : Int} (ha : Ev T ta σ G i) (hb : Ev T tb σ G j) : Ev T (tOp (rI0 fun i j => .int (f i j)) ta tb) σ G (f i j) :=
  ev_op isD_ex isD_ex ha hb fun x y G1 H1 _ k rx ry Q q => ⟨i, j, dq_int rx, dq_int ry, q _ G1 H1 (Nx.refl k) (.int _)⟩
theorem ev_i {C : Int → Int → Prop} {f : Int → Int → Int} {i j : Int} (ha : Ev T ta σ G i) (hb : Ev T tb σ G j) (hc : C i j) : Ev T (tOp (rI C fun i j => .int (f i j)) ta tb) σ G (f i j) :=
  ev_op isD_ex isD_ex ha hb fun x y G1 H1 _ k rx ry Q q => ⟨i, j, dq_int rx, dq_int ry, hc, q _ G1 H1 (Nx.refl k) (.int _)⟩
theorem ev_b0 {f : Int → Int → Bool} {i j : Int} (ha : Ev T ta σ G i) (hb : Ev T tb σ G j) : Ev T (tOp (rI0 fun i j => .bl (f i j)) ta tb) σ G (f i j) :=
  ev_op isD_ex isD_ex ha hb fun x y G1 H1 _ k rx ry Q q => ⟨i, j, dq_int rx, dq_int ry, q _ G1 H1 (Nx.refl k) (.bl _)⟩
theorem ev_neg {i : Int} (ha : Ev T ta σ G i) : Ev T (tUn (rU fun i => .int (-i)) ta) σ G (-i) :=
  ev_un ha fun x G1 H1 _ k rx Q q => ⟨i, dq_int rx, q _ G1 H1 (Nx.refl k) (.int _)⟩
/-- == of whole numbers, of truth values -/
theorem ev_eqI {i j : Int} (ha : Ev T ta σ G i) (hb : Ev T tb σ G j) : Ev T (tOp rEq ta tb) σ G (decide (i = j)) :=
  ev_op isD_ex isD_ex ha hb fun x y G1 H1 _ k rx ry Q q => by
    rw [dq_int rx, dq_int ry]
    refine ⟨rfl, q _ G1 H1 (Nx.refl k) ?_⟩
    have e : decide (V.int i = V.int j) = decide (i = j) := by simp
    rw [e]
    exact .bl _
theorem ev_neI {i j : Int} (ha : Ev T ta σ G i) (hb : Ev T tb σ G j) : Ev T (tOp rNe ta tb) σ G (!decide (i = j)) :=
  ev_op isD_ex isD_ex ha hb fun x y G1 H1 _ k rx ry Q q => by
    rw [dq_int rx, dq_int ry]
    refine ⟨rfl, q _ G1 H1 (Nx.refl k) ?_⟩
    have e : decide (V.int i = V.int j) = decide (i = j) := by simp
    rw [e]
    exact .bl _
theorem ev_neB {i j : Bool} (ha : Ev T ta σ G i) (hb : Ev T tb σ G j) : Ev T (tOp rNe ta tb) σ G (!decide (i = j)) :=
  ev_op isD_ex isD_ex ha hb fun x y G1 H1 _ k rx ry Q q => by
    rw [dq_bool rx, dq_bool ry]
    refine ⟨rfl, q _ G1 H1 (Nx.refl k) ?_⟩
    have e : decide (V.bl i = V.bl j) = decide (i = j) := by simp
    rw [e]
    exact .bl _
/-- == of data -/
theorem ev_eqD [DecidableEq α] (ha : Ev T ta σ G x) (hb : Ev T tb σ G y) (hd : Enc.dep α ≤ 64 := by decide) : Ev T (tOp (rEqD K) ta tb) σ G (decide (x = y)) :=
  ev_op isD_ex isD_ex ha hb fun u v G1 H1 _ k rx ry Q q => by
    refine ⟨enc x, enc y, dp_of (dq_ex k.le rx), dp_of (dq_ex k.le ry), shaped_enc hd x, shaped_enc hd y, q _ G1 H1 (Nx.refl k) ?_⟩
    rw [eqv_enc]
    exact .bl _
theorem ev_neD [DecidableEq α] (ha : Ev T ta σ G x) (hb : Ev T tb σ G y) (hd : Enc.dep α ≤ 64 := by decide) : Ev T (tOp (rNeD K) ta tb) σ G (!decide (x = y)) :=
  ev_op isD_ex isD_ex ha hb fun u v G1 H1 _ k rx ry Q q => by
    refine ⟨enc x, enc y, dp_of (dq_ex k.le rx), dp_of (dq_ex k.le ry), shaped_enc hd x, shaped_enc hd y, q _ G1 H1 (Nx.refl k) ?_⟩
    rw [eqv_enc]
    exact .bl _
/-- the script against a list -/
theorem ev_neS {ns : List Int} (ha : EvR T ta σ G (IsS K ns)) (hb : Ev T tb σ G ([] : List Int)) : Ev T (tOp (rNeD K) ta tb) σ G (!decide (ns = [])) :=
  ev_op isS_ex isD_ex ha hb fun u v G1 H1 _ k rx ry Q q => by
    obtain ⟨a, rfl, hs⟩ := rx
    have d1 : Dp K H1 (.ref a) (enc ns) := .lst (sl_ex k.le hs) (da_of (da_ints ns))
    refine ⟨enc ns, enc ([] : List Int), d1, dp_of (dq_ex k.le ry), shaped_enc (by decide) ns, shaped_enc (by decide) _, q _ G1 H1 (Nx.refl k) ?_⟩
    rw [eqv_enc]
    exact .bl _
theorem ev_inD [DecidableEq α] {xs : List α} (ha : Ev T ta σ G x) (hb : Ev T tb σ G xs) (hd : Enc.dep α ≤ 60 := by decide) : Ev T (tOp (rInD K) ta tb) σ G (decide (x ∈ xs)) :=
  ev_op isD_ex isD_ex ha hb fun u v G1 H1 _ k rx ry Q q => by
    have hd2 : Enc.dep (List α) ≤ 64 := Nat.le_trans (Nat.succ_le_succ hd) (by decide)
    refine ⟨enc x, xs.map enc, dp_of (dq_ex k.le rx), dp_of (dq_ex k.le ry), shaped_enc (by omega) x, shaped_enc hd2 xs, q _ G1 H1 (Nx.refl k) ?_⟩
    rw [any_enc]
    exact .bl _
theorem ev_notInD [DecidableEq α] {xs : List α} (ha : Ev T ta σ G x) (hb : Ev T tb σ G xs) (hd : Enc.dep α ≤ 60 := by decide) : Ev T (tOp (rNotInD K) ta tb) σ G (!decide (x ∈ xs)) :=
  ev_op isD_ex isD_ex ha hb fun u v G1 H1 _ k rx ry Q q => by
    have hd2 : Enc.dep (List α) ≤ 64 := Nat.le_trans (Nat.succ_le_succ hd) (by decide)
    refine ⟨enc x, xs.map enc, dp_of (dq_ex k.le rx), dp_of (dq_ex k.le ry), shaped_enc (by omega) x, shaped_enc hd2 xs, q _ G1 H1 (Nx.refl k) ?_⟩
    rw [any_enc]
    exact .bl _

theorem ev_ix {xs : List α} {i : Int} {x : α} (ha : Ev T ta σ G xs) (hb : Ev T tb σ G i) (h : atI xs i = some x) : Ev T (tOp (rIxL K) ta tb) σ G x :=
  ev_op isD_ex isD_ex ha hb fun u v G1 H1 _ k rx ry Q q => by
    have rx : Dq G1 u (.list (xs.map enc)) := rx
    cases rx with
    | @lst a vs _ h1 h2 =>
      unfold atI at h
      obtain ⟨j, hj, hx⟩ := Option.bind_eq_some_iff.mp h
      have hl := da_len h2
      rw [List.length_map] at hl
      have hx2 : (xs.map enc)[j]? = some (enc x) := by
        rw [List.getElem?_map, hx] <;> rfl
      obtain ⟨w, hw, rw'⟩ := da_at' h2 hx2
      refine ⟨a, vs, i, w, rfl, dq_int ry, .inl (.inl (k.le _ _ h1)), ?_, q _ G1 H1 (Nx.refl k) rw'⟩
      unfold atI
      rw [hl, hj]
      exact hw
theorem ev_ixS {ns : List Int} {i x : Int} (ha : EvR T ta σ G (IsS K ns)) (hb : Ev T tb σ G i) (h : atI ns i = some x) : Ev T (tOp (rIxL K) ta tb) σ G x :=
  ev_op isS_ex isD_ex ha hb fun u v G1 H1 _ k rx ry Q q => by
    obtain ⟨a, rfl, hs⟩ := rx
    unfold atI at h
    obtain ⟨j, hj, hx⟩ := Option.bind_eq_some_iff.mp h
    refine ⟨a, ns.map V.int, i, .int x, rfl, dq_int ry, sl_ex k.le hs, ?_, q _ G1 H1 (Nx.refl k) (.int x)⟩
    unfold atI
    rw [List.length_map, hj]
    show (ns.map V.int)[j]? = some (V.int x)
    rw [List.getElem?_map, hx] <;> rfl

theorem et_test {b : Bool} (h : Ev T te σ G b) : EvT T (tTest te) σ G b := fun H k Q q => h H k _ fun v G2 H2 n r => ⟨b, dq_bool r, q G2 H2 n⟩
theorem et_B {b : Bool} (h : Ev T te σ G b) : EvT T (tB te) σ G b := fun H k Q q => h H k _ fun v G2 H2 n r => ⟨b, dq_bool r, q G2 H2 n⟩
theorem et_and {a b : Bool} (h1 : EvT T t σ G a) (h2 : a = true → EvT T u σ G b) : EvT T (tAnd t u) σ G (a && b) := fun H k Q q => h1 H k _ fun G2 H2 n => by
  cases a with
  | true => exact iteT ((h2 rfl).mono n.ex H2 n.kn _ fun G3 H3 n3 => q G3 H3 (n.trans n3))
  | false => exact iteF (q G2 H2 n)
theorem et_or {a b : Bool} (h1 : EvT T t σ G a) (h2 : a = false → EvT T u σ G b) : EvT T (tOr t u) σ G (a || b) := fun H k Q q => h1 H k _ fun G2 H2 n => by
  cases a with
  | true => exact iteT (q G2 H2 n)
  | false => exact iteF ((h2 rfl).mono n.ex H2 n.kn _ fun G3 H3 n3 => q G3 H3 (n.trans n3))
theorem et_not {a : Bool} (h1 : EvT T t σ G a) : EvT T (tNot t) σ G (!a) := fun H k Q q => h1 H k _ fun G2 H2 n => q G2 H2 n
theorem et_yes : EvT T tYes σ G true := fun H k Q q => q G H (Nx.refl k)
theorem ev_andV {a b : Bool} (h1 : Ev T ta σ G a) (h2 : a = true → Ev T tb σ G b) : Ev T (tAndV ta tb) σ G (a && b) := fun H k Q q => h1 H k _ fun v G2 H2 n r => ⟨a, dq_bool r, by
  cases a with
  | true => exact iteT (EvR.mono isD_ex (h2 rfl) n.ex H2 n.kn _ fun w G3 H3 n3 r3 => q w G3 H3 (n.trans n3) r3)
  | false => exact iteF (q _ G2 H2 n (.bl _))⟩
theorem ev_orV {a b : Bool} (h1 : Ev T ta σ G a) (h2 : a = false → Ev T tb σ G b) : Ev T (tOrV ta tb) σ G (a || b) := fun H k Q q => h1 H k _ fun v G2 H2 n r => ⟨a, dq_bool r, by
  cases a with
  | true => exact iteT (q _ G2 H2 n (.bl _))
  | false => exact iteF (EvR.mono isD_ex (h2 rfl) n.ex H2 n.kn _ fun w G3 H3 n3 r3 => q w G3 H3 (n.trans n3) r3)⟩
theorem ev_notV {a : Bool} (h1 : Ev T ta σ G a) : Ev T (tNotV ta) σ G (!a) := fun H k Q q => h1 H k _ fun v G2 H2 n r => ⟨a, dq_bool r, q _ G2 H2 n (.bl _)⟩
theorem ev_if {b : Bool} (m : Mono R) (h : EvT T t σ G b) (h1 : b = true → EvR T ta σ G R) (h2 : b = false → EvR T tb σ G R) : EvR T (tIf t ta tb) σ G R := fun H k Q q => h H k _ fun G2 H2 n => by
  cases b with
  | true => exact iteT (EvR.mono m (h1 rfl) n.ex H2 n.kn _ fun w G3 H3 n3 r3 => q w G3 H3 (n.trans n3) r3)
  | false => exact iteF (EvR.mono m (h2 rfl) n.ex H2 n.kn _ fun w G3 H3 n3 r3 => q w G3 H3 (n.trans n3) r3)
/-- a < b < c, and one more -/
theorem ev_chain {r r' : R2} {a b : Bool} (m : Mono R) (m' : Mono R') (m'' : Mono R'') (ha : EvR T ta σ G R) (hb : EvR T tb σ G R') (hr : ∀ x y G1 H1, Kn T G1 H1 → R G1 x → R' G1 y → ∀ Q : VK, Q (.bl a) H1 → r x y H1 Q)
    (hc : a = true → EvR T tc σ G R'') (hr' : a = true → ∀ x y G1 H1, Kn T G1 H1 → R' G1 x → R'' G1 y → ∀ Q : VK, Q (.bl b) H1 → r' x y H1 Q) : Ev T (tChain r r' ta tb tc) σ G (a && b) := fun H k Q q =>
  ha H k _ fun v G1 H1 n1 r1 => hb.mono m' n1.ex H1 n1.kn _ fun w G2 H2 n2 r2 => hr v w G2 H2 n2.kn (m.ex n2.ex r1) r2 _ ⟨a, rfl, by
    cases a with
    | true => exact iteT (EvR.mono m'' (hc rfl) (n1.ex.trans n2.ex) H2 n2.kn _ fun z G3 H3 n3 r3 => hr' rfl w z G3 H3 n3.kn (m'.ex n3.ex r2) r3 _ (q _ G3 H3 ((n1.trans n2).trans n3) (.bl b)))
    | false => exact iteF (q _ G2 H2 (n1.trans n2) (.bl false))⟩

theorem ea_nil : EvA T tNil σ G [] := fun H k Q q => q [] G H (Nx.refl k) True.intro
theorem ea_cons {tr : TA} {Rs : List Rp} (m : Mono R) (ms : MonoA Rs) (h : EvR T ta σ G R) (hr : EvA T tr σ G Rs) : EvA T (tCons ta tr) σ G (R :: Rs) := fun H k Q q =>
  h H k _ fun v G1 H1 n1 r1 => hr.mono ms n1.ex H1 n1.kn _ fun vs G2 H2 n2 r2 => q (v :: vs) G2 H2 (n1.trans n2) ⟨m.ex n2.ex r1, r2⟩
theorem allR_da : ∀ {xs : List α} {vs : List V}, AllR G vs (xs.map fun x => IsE x) → DqAll G vs (xs.map enc)
  | [], [], _ => .nil
  | x :: xs, v :: vs, h => .cons h.1 (allR_da h.2)
  | [], _ :: _, h => h.elim
  | _ :: _, [], h => h.elim
theorem en_lst {ta : TA} {xs : List α} (h : EvA T ta σ G (xs.map fun x => IsE x)) (hl : xs.length ≤ 1000) : EvN T (tLst ta) σ G xs := fun H k Q q =>
  h H k _ fun vs G1 H1 n1 r1 => ⟨by
    have := allR_len r1
    rw [List.length_map] at this
    rw [this]
    exact Nat.le_trans hl (by decide), fun p hp => q p vs G1 _ (n1.trans (Nx.fresh n1.kn hp)) (n1.dom p hp) (n1.kn.none hp) upd_same (allR_da r1)⟩
theorem ev_pair {x : α} {y : β} (ha : Ev T ta σ G x) (hb : Ev T tb σ G y) : Ev T (tTup (tCons ta (tCons tb tNil))) σ G (x, y) := fun H k Q q =>
  ha H k _ fun v G1 H1 n1 r1 => EvR.mono isD_ex hb n1.ex H1 n1.kn _ fun w G2 H2 n2 r2 => ⟨by show 2 ≤ sizeLine; decide, fun p hp =>
    q _ _ _ ((n1.trans n2).trans (Nx.new n2.kn hp fun ps z => by cases z)) (.tup upd_same (.cons (dq_ex (n2.ex.trans (Ex.new (n2.kn.none hp))) r1) (.cons (dq_ex (Ex.new (n2.kn.none hp)) r2) .nil)))⟩
/-- what a def promises: from the arguments to what it tells -/
def Prom (T : Tbs) (Rs : List Rp) (R : Rp) : Sp := fun vs H Q _ => ∃ G, Kn T G H ∧ AllR G vs Rs ∧ ∀ v G2 H2, Nx T G H G2 H2 → R G2 v → Q v H2
def PromN (T : Tbs) (Rs : List Rp) (xs : List α) : Sp := fun vs H Q _ => ∃ G, Kn T G H ∧ AllR G vs Rs ∧
  ∀ p vs G2 H2, Nx T G H G2 H2 → H p = none → G2 p = none → H2 p = some (.lst vs) → DqAll G2 vs (xs.map enc) → Q (.ref p) H2
theorem ev_call {ta : TA} {sp : Sp} {E : XK} {Rs : List Rp} (h : EvA T ta σ G Rs) (hs : ∀ vs H Q E, Prom T Rs R vs H Q E → sp vs H Q E) : EvR T (tCall sp [] E ta) σ G R := fun H k Q q =>
  h H k _ fun vs G1 H1 n1 r1 => by
    rw [List.append_nil]
    exact hs vs H1 Q E ⟨G1, n1.kn, r1, fun v G2 H2 n2 r2 => q v G2 H2 (n1.trans n2) r2⟩
theorem en_call {ta : TA} {sp : Sp} {E : XK} {Rs : List Rp} {xs : List α} (h : EvA T ta σ G Rs) (hs : ∀ vs H Q E, PromN T Rs xs vs H Q E → sp vs H Q E) : EvN T (tCall sp [] E ta) σ G xs := fun H k Q q =>
  h H k _ fun vs G1 H1 n1 r1 => by
    rw [List.append_nil]
    exact hs vs H1 Q E ⟨G1, n1.kn, r1, fun p ws G2 H2 n2 h0 hG hp r2 => q p ws G2 H2 (n1.trans n2) (n1.dom p h0) hG hp r2⟩

theorem ev_len {xs : List α} (h : Ev T te σ G xs) : Ev T (tCB (fun xs H Q => ∃ p ys, xs = [V.ref p] ∧ (SqL K H p ys ∨ SqT K H p ys) ∧ Q (.int ys.length) H) (tCons te tNil)) σ G (xs.length : Int) := fun H k Q q =>
  h H k _ fun v G1 H1 n1 r1 => by
    have r1 : Dq G1 v (.list (xs.map enc)) := r1
    cases r1 with
    | @lst a vs _ h1 h2 =>
      have hl := da_len h2
      rw [List.length_map] at hl
      refine ⟨a, vs, rfl, .inl (.inl (.inl (n1.kn.le _ _ h1))), ?_⟩
      rw [hl]
      exact q _ G1 H1 n1 (.int _)
theorem ev_lenS {ns : List Int} (h : EvR T te σ G (IsS K ns)) : Ev T (tCB (fun xs H Q => ∃ p ys, xs = [V.ref p] ∧ (SqL K H p ys ∨ SqT K H p ys) ∧ Q (.int ys.length) H) (tCons te tNil)) σ G (ns.length : Int) := fun H k Q q =>
  h H k _ fun v G1 H1 n1 r1 => by
    obtain ⟨a, rfl, hs⟩ := r1
    refine ⟨a, ns.map V.int, rfl, .inl (sl_ex n1.kn.le hs), ?_⟩
    rw [List.length_map]
    exact q _ G1 H1 n1 (.int _)
theorem ev_sumS {ns : List Int} (h : EvR T te σ G (IsS K ns)) : Ev T (tCB (rSum K) (tCons te tNil)) σ G ns.sum := fun H k Q q =>
  h H k _ fun v G1 H1 n1 r1 => by
    obtain ⟨a, rfl, hs⟩ := r1
    exact ⟨a, ns, rfl, sl_ex n1.kn.le hs, q _ G1 H1 n1 (.int _)⟩
theorem ev_all {bs : List Bool} (h : Ev T te σ G bs) : Ev T (tCB (rAll K) (tCons te tNil)) σ G (bs.all id) := fun H k Q q =>
  h H k _ fun v G1 H1 n1 r1 => by
    have r1 : Dq G1 v (.list (bs.map PyData.bool)) := r1
    cases r1 with
    | @lst a vs _ h1 h2 =>
      rw [da_bools_eq h2] at h1
      exact ⟨a, bs, rfl, .inl (.inl (n1.kn.le _ _ h1)), q _ G1 H1 n1 (.bl _)⟩
theorem ev_max2 {i j : Int} (ha : Ev T ta σ G i) (hb : Ev T tb σ G j) : Ev T (tCB (fun xs H Q => ∃ i j, xs = [V.int i, V.int j] ∧ Q (.int (if j > i then j else i)) H) (tCons ta (tCons tb tNil))) σ G (max i j) := fun H k Q q =>
  ha H k _ fun v G1 H1 n1 r1 => EvR.mono isD_ex hb n1.ex H1 n1.kn _ fun w G2 H2 n2 r2 => by
    rw [dq_int r1, dq_int r2]
    refine ⟨i, j, rfl, q _ G2 H2 (n1.trans n2) ?_⟩
    have e : (if j > i then j else i) = max i j := by
      split <;> omega
    rw [e]
    exact .int _
/-- list(xs), a copy -/
theorem en_listOf {xs : List α} (h : Ev T te σ G xs) : EvN T (tCB (fun xs H Q => ∃ p ys, xs = [V.ref p] ∧ (SqL K H p ys ∨ SqT K H p ys) ∧ ∀ l, H l = none → Q (.ref l) (upd H l (.lst ys))) (tCons te tNil)) σ G xs := fun H k Q q =>
  h H k _ fun v G1 H1 n1 r1 => by
    have r1 : Dq G1 v (.list (xs.map enc)) := r1
    cases r1 with
    | @lst a vs _ h1 h2 => exact ⟨a, vs, rfl, .inl (.inl (.inl (n1.kn.le _ _ h1))), fun p hp => q p vs G1 _ (n1.trans (Nx.fresh n1.kn hp)) (n1.dom p hp) (n1.kn.none hp) upd_same h2⟩
/-- list(range(i, j)) -/
theorem en_listRg {i j : Int} (ha : Ev T ta σ G i) (hb : Ev T tb σ G j) (hr : -1000000 ≤ i ∧ i ≤ 1000000 ∧ -1000000 ≤ j ∧ j ≤ 1000000) : EvN T (tLstRg (tRg2 ta tb)) σ G (Sw.rngI i j) := fun H k Q q =>
  ha H k _ fun v G1 H1 n1 r1 => EvR.mono isD_ex hb n1.ex H1 n1.kn _ fun w G2 H2 n2 r2 => ⟨i, j, dq_int r1, dq_int r2, ⟨by omega, by omega, by omega, by omega, by omega⟩, fun p hp => by
    refine q p _ G2 _ ((n1.trans n2).trans (Nx.fresh n2.kn hp)) ((n1.trans n2).dom p hp) (n2.kn.none hp) upd_same ?_
    have e : rgV i j = (Sw.rngI i j).map V.int := by
      unfold rgV Sw.rngI
      rw [List.map_map]
      rfl
    rw [e]
    exact da_ints _⟩
/-- xs[::-1] -/
theorem en_rev {xs : List α} (h : Ev T te σ G xs) : EvN T (tRevL K te) σ G xs.reverse := fun H k Q q =>
  h H k _ fun v G1 H1 n1 r1 => by
    have r1 : Dq G1 v (.list (xs.map enc)) := r1
    cases r1 with
    | @lst a vs _ h1 h2 => exact ⟨a, vs, rfl, .inl (.inl (n1.kn.le _ _ h1)), fun p hp => q p _ G1 _ (n1.trans (Nx.fresh n1.kn hp)) (n1.dom p hp) (n1.kn.none hp) upd_same (by
      rw [List.map_reverse]
      exact da_rev h2)⟩
/-- xs + ys -/
theorem en_cat {xs ys : List α} (ha : Ev T ta σ G xs) (hb : Ev T tb σ G ys) (hz : xs.length + ys.length ≤ 100000) : EvN T (tOp rCat ta tb) σ G (xs ++ ys) := fun H k Q q =>
  ha H k _ fun v G1 H1 n1 r1 => EvR.mono isD_ex hb n1.ex H1 n1.kn _ fun w G2 H2 n2 r2 => by
    have r1 : Dq G2 v (.list (xs.map enc)) := dq_ex n2.ex r1
    have r2 : Dq G2 w (.list (ys.map enc)) := r2
    cases r1 with
    | @lst a vs _ h1 h2 =>
      cases r2 with
      | @lst b ws _ h3 h4 =>
        have l1 := da_len h2
        have l2 := da_len h4
        rw [List.length_map] at l1 l2
        refine ⟨a, b, vs, ws, rfl, rfl, n2.kn.le _ _ h1, n2.kn.le _ _ h3, ?_, fun p hp => q p _ G2 _ ((n1.trans n2).trans (Nx.fresh n2.kn hp)) ((n1.trans n2).dom p hp) (n2.kn.none hp) upd_same ?_⟩
        · rw [l1, l2]
          exact Nat.le_trans hz (by decide)
        · rw [List.map_append]
          exact da_app h2 h4
def EvO (T : Tbs) (to : TO) (σ : L2.St) (G : Hp) (o : Option Int) : Prop := ∀ H, Kn T G H → ∀ Q : Option Int → Hp → Prop, (∀ G2 H2, Nx T G H G2 H2 → Q o H2) → to σ H Q
theorem eo_none : EvO T tNoPart σ G none := fun H k Q q => q G H (Nx.refl k)
theorem eo_some {i : Int} (h : Ev T te σ G i) : EvO T (tPart te) σ G (some i) := fun H k Q q => h H k _ fun v G2 H2 n r => ⟨i, dq_int r, q G2 H2 n⟩
theorem EvO.mono {to : TO} {o : Option Int} (h : EvO T to σ G o) (e : Ex G G2) : EvO T to σ G2 o := fun H k Q q => h H (k.sub e) Q fun G3 H3 n => by
  obtain ⟨G4, e4, n4⟩ := n.mono k e
  exact q G4 H3 n4
def cutA {α : Type} (xs : List α) (lo hi : Option Int) : List α := (xs.drop (HT.sIx xs.length 0 lo)).take (HT.sIx xs.length xs.length hi - HT.sIx xs.length 0 lo)
theorem en_sl {tl th : TO} {xs : List α} {lo hi : Option Int} (h : Ev T te σ G xs) (h1 : EvO T tl σ G lo) (h2 : EvO T th σ G hi) : EvN T (tSl (rSlL K) te tl th) σ G (cutA xs lo hi) := fun H k Q q =>
  h H k _ fun v G1 H1 n1 r1 => h1.mono n1.ex H1 n1.kn _ fun G2 H2 n2 => h2.mono (n1.ex.trans n2.ex) H2 n2.kn _ fun G3 H3 n3 => by
    have r1 : Dq G3 v (.list (xs.map enc)) := dq_ex (n2.ex.trans n3.ex) r1
    cases r1 with
    | @lst a vs _ g1 g2 =>
      have l1 := da_len g2
      rw [List.length_map] at l1
      refine ⟨a, vs, rfl, .inl (.inl (n3.kn.le _ _ g1)), fun p hp => q p _ G3 _ (((n1.trans n2).trans n3).trans (Nx.fresh n3.kn hp)) (((n1.trans n2).trans n3).dom p hp) (n3.kn.none hp) upd_same ?_⟩
      unfold cutV cutA
      rw [l1, List.map_take, List.map_drop]
      exact da_take _ (da_drop _ g2)
end
end Ed

set_option Elab.async false
set_option linter.all false
set_option maxRecDepth 100000
namespace Ed
open PySem PySem.Spec PyProof.Rows L2 LamX
open Ed.Enc (enc)

/-- wi walks the items xs: each is known when its turn comes -/
def Src (T : Tbs) (wi : TI) (σ : L2.St) (G : Hp) {α : Type} [Enc α] (xs : List α) : Prop := ∀ H, Kn T G H → ∀ R : It → Hp → Prop,
  (∀ J G2 H2, Nx T G H G2 H2 → Walk J xs.length (fun H' => ∃ G', Ex G2 G' ∧ Ex G' H') (fun i H' v H'' => ∃ x, xs[i]? = some x ∧ ∀ G', Ex G2 G' → Kn T G' H' → ∃ G'', Nx T G' H' G'' H'' ∧ IsE x G'' v) → R J H2) → wi σ H R
section
variable {T : Tbs} {K : PySem.W.Frag} {σ : L2.St} {G G2 H : Hp} {ta tb te tl : TE} {t u : TT} {R R' R'' : Rp} {α β γ : Type} [Enc α] [Enc β] [Enc γ] {x y : α}

theorem src_list {xs : List α} (h : Ev T tl σ G xs) : Src T (iList K tl) σ G xs := fun H k R q => h H k _ fun v G1 H1 n1 r1 => by
  have r1 : Dq G1 v (.list (xs.map enc)) := r1
  cases r1 with
  | @lst a vs _ h1 h2 =>
    have hl := da_len h2
    rw [List.length_map] at hl
    have sq : ∀ H', (∃ G', Ex G1 G' ∧ Ex G' H') → SqL K H' a vs := fun H' ⟨G', e1, e2⟩ => .inl (.inl (e2 _ _ (e1 _ _ h1)))
    refine ⟨a, rfl, ⟨vs, .inl (.inl (n1.kn.le _ _ h1))⟩, q _ G1 H1 n1 ?_⟩
    rw [← hl]
    refine (walk_list (K := K) (a := a) (xs := vs)).mono sq fun i H' v H'' hi hG y => ?_
    obtain ⟨e, hv⟩ := y
    subst e
    obtain ⟨d, hd, _⟩ := da_at h2 hv
    rw [List.getElem?_map] at hd
    cases hx : xs[i]? with
    | none =>
      rw [hx] at hd
      cases hd
    | some x =>
      refine ⟨x, rfl, fun G' e1 k' => ⟨G', Nx.refl k', ?_⟩⟩
      obtain ⟨d2, hd2, r2⟩ := da_at (da_ex e1 h2) hv
      rw [List.getElem?_map, hx] at hd2
      have e2 : enc x = d2 := Option.some.inj hd2
      show Dq G' v (enc x)
      rw [e2]
      exact r2
theorem rngI_at {i j : Int} {k : Nat} (h : k < (j - i).toNat) : (Sw.rngI i j)[k]? = some (i + (k : Int)) := by
  unfold Sw.rngI
  rw [List.getElem?_map, List.getElem?_range h] <;> rfl
theorem src_rng2 {i j : Int} (ha : Ev T ta σ G i) (hb : Ev T tb σ G j) (hr : -1000000 ≤ i ∧ i ≤ 1000000 ∧ -1000000 ≤ j ∧ j ≤ 1000000) : Src T (iRng2 (tCons ta (tCons tb tNil))) σ G (Sw.rngI i j) := fun H k R q =>
  ha H k _ fun v G1 H1 n1 r1 => EvR.mono isD_ex hb n1.ex H1 n1.kn _ fun w G2 H2 n2 r2 => by
    rw [dq_int r1, dq_int r2]
    refine ⟨i, j, rfl, ⟨by omega, by omega, by omega, by omega⟩, q _ G2 H2 (n1.trans n2) ?_⟩
    rw [Sw.len_rngI]
    refine walk_range.mono (fun _ _ => True.intro) fun l H' v H'' hl hG y => ?_
    obtain ⟨e1, e2⟩ := y
    subst e1 e2
    exact ⟨_, rngI_at hl, fun G' _ k' => ⟨G', Nx.refl k', .int _⟩⟩
theorem src_rng1 {j : Int} (hb : Ev T tb σ G j) (hr : j ≤ 1000000) (hr0 : -1000000 ≤ j) : Src T (iRng1 (tCons tb tNil)) σ G (Sw.rngI 0 j) := fun H k R q =>
  hb H k _ fun w G2 H2 n2 r2 => by
    rw [dq_int r2]
    refine ⟨j, rfl, by omega, by omega, q _ G2 H2 n2 ?_⟩
    rw [Sw.len_rngI, Int.sub_zero]
    refine walk_range.mono (fun _ _ => True.intro) fun l H' v H'' hl hG y => ?_
    obtain ⟨e1, e2⟩ := y
    subst e1 e2
    exact ⟨_, rngI_at (by rw [Int.sub_zero]; exact hl), fun G' _ k' => ⟨G', Nx.refl k', .int _⟩⟩
/-- (0, x), (1, y), .. -/
def enumZ {α : Type} (xs : List α) : List (Int × α) := ((List.range xs.length).zip xs).map fun p => ((p.1 : Int), p.2)
theorem enumZ_at {α : Type} {xs : List α} {i : Nat} {x : α} (h : xs[i]? = some x) : (enumZ xs)[i]? = some ((i : Int), x) := by
  obtain ⟨hi, e⟩ := List.getElem?_eq_some_iff.mp h
  unfold enumZ
  have z : ((List.range xs.length).zip xs)[i]? = some (i, x) := List.getElem?_zip_eq_some.mpr ⟨List.getElem?_range hi, h⟩
  rw [List.getElem?_map, z] <;> rfl
theorem enumZ_len {α : Type} {xs : List α} : (enumZ xs).length = xs.length := by
  unfold enumZ
  rw [List.length_map, List.length_zip, List.length_range]
  exact Nat.min_self _
theorem src_enum {xs : List α} (h : Ev T tl σ G xs) : Src T (iEnum K (tCons tl tNil)) σ G (enumZ xs) := fun H k R q => h H k _ fun v G1 H1 n1 r1 => by
  have r1 : Dq G1 v (.list (xs.map enc)) := r1
  cases r1 with
  | @lst a vs _ h1 h2 =>
    have hl := da_len h2
    rw [List.length_map] at hl
    have sq : ∀ H', (∃ G', Ex G1 G' ∧ Ex G' H') → SqL K H' a vs := fun H' ⟨G', e1, e2⟩ => .inl (.inl (e2 _ _ (e1 _ _ h1)))
    refine ⟨a, vs, rfl, .inl (.inl (n1.kn.le _ _ h1)), q _ G1 H1 n1 ?_⟩
    rw [enumZ_len, ← hl]
    refine (walk_enum (K := K) (a := a) (xs := vs)).mono sq fun i H' v H'' hi hG y => ?_
    obtain ⟨P, z, w, e1, e2, e3, e4, hv⟩ := y
    subst e1 e3
    cases e4
    obtain ⟨d, hd, _⟩ := da_at h2 hv
    rw [List.getElem?_map] at hd
    cases hx : xs[i]? with
    | none =>
      rw [hx] at hd
      cases hd
    | some x =>
      refine ⟨((i : Int), x), enumZ_at hx, fun G' g1 k' => ⟨_, Nx.new k' e2 (fun ps z => by cases z), ?_⟩⟩
      obtain ⟨d2, hd2, r2⟩ := da_at (da_ex (g1.trans (Ex.new (k'.none e2))) h2) hv
      rw [List.getElem?_map, hx] at hd2
      have e5 : enc x = d2 := Option.some.inj hd2
      refine .tup upd_same (.cons (.int _) (.cons ?_ .nil))
      show Dq _ w (enc x)
      rw [e5]
      exact r2

/-- the target g puts x so that S holds of the slots -/
def Tgt (T : Tbs) (g : TG) (σ : L2.St) (G : Hp) (x : α) (S : Hp → L2.St → Prop) : Prop := ∀ v G' H', Ex G G' → Kn T G' H' → IsE x G' v → ∀ Q : L2.St → Hp → Prop, (∀ σ2, S G' σ2 → Q σ2 H') → g v σ H' Q
theorem tgt_name {j : Nat} {x : α} : Tgt T (gName j) σ G x (fun G' σ2 => ∃ v, σ2 = σ.set j (some v) ∧ IsE x G' v) := fun v G' H' _ k r Q q => q _ ⟨v, rfl, r⟩
theorem tgt_pair {i j : Nat} {x : α} {y : β} : Tgt T (gTup K 2 (gCons (gName i) (gCons (gName j) gNil))) σ G (x, y) (fun G' σ2 => ∃ v w, σ2 = (σ.set i (some v)).set j (some w) ∧ IsE x G' v ∧ IsE y G' w) := fun v G' H' _ k r Q q => by
  have r : Dq G' v (.tuple [enc x, enc y]) := r
  cases r with
  | @tup a vs _ h1 h2 =>
    cases h2 with
    | cons r1 h3 =>
      cases h3 with
      | cons r2 h4 =>
        cases h4
        exact ⟨a, _, rfl, .inl (.inl (k.le _ _ h1)), rfl, _, _, rfl, _, _, rfl, rfl, q _ ⟨_, _, rfl, r1, r2⟩⟩

theorem take_step {xs : List α} {i : Nat} {x : α} (h : xs[i]? = some x) : xs.take (i + 1) = xs.take i ++ [x] := by
  rw [List.take_add_one, h] <;> rfl
/-- one turn's test and element, onto the list at Dl -/
theorem lc_turn {H0 G' H' : Hp} {Dl : Addr} {ws : List V} {σ2 : L2.St} {cx : Bool} {ex : β} {Pn : Hp → Prop} (n : Nx T G H0 G' H') (h0 : H0 Dl = none) (hG : G' Dl = none) (hp : H' Dl = some (.lst ws)) (hz : ws.length < 100000)
    (ht : EvT T t σ2 G' cx) (he : cx = true → Ev T te σ2 G' ex) (no : cx = false → ∀ G2 H2, Nx T G H0 G2 H2 → Ex G' G2 → G2 Dl = none → H2 Dl = some (.lst ws) → Pn H2)
    (yes : cx = true → ∀ v G2 H2, Nx T G H0 G2 H2 → Ex G' G2 → G2 Dl = none → H2 Dl = some (.lst (ws ++ [v])) → IsE ex G2 v → Pn H2) :
    t σ2 H' fun b H3 => if b = true then te σ2 H3 fun y H4 => ∃ acc, H4 Dl = some (.lst acc) ∧ acc.length < sizeLine ∧ Pn (upd H4 Dl (.lst (acc ++ [y]))) else Pn H3 := by
  have stay : ∀ {A B A2 B2 : Hp}, Nx T A B A2 B2 → A Dl = none → B Dl = some (.lst ws) → A2 Dl = none ∧ B2 Dl = some (.lst ws) := fun m e1 e2 => by
    exact ⟨m.out e1 e2 (fun xs z => by cases z), m.keep Dl _ e2 (fun ps z => by cases z)⟩
  refine ht H' n.kn _ fun G2 H2 n2 => ?_
  obtain ⟨g2, p2⟩ := stay n2 hG hp
  cases cx with
  | false => exact iteF (no rfl G2 H2 (n.trans n2) n2.ex g2 p2)
  | true =>
    refine iteT (EvR.mono isD_ex (he rfl) n2.ex H2 n2.kn _ fun v G3 H3 n3 r3 => ?_)
    obtain ⟨g3, p3⟩ := stay n3 g2 p2
    refine ⟨ws, p3, Nat.lt_of_lt_of_le hz (by decide), ?_⟩
    exact yes rfl v G3 _ (((n.trans n2).trans n3).mut h0 g3 p3 True.intro) (n2.ex.trans n3.ex) g3 upd_same r3
/-- [e for g in xs if c] -/
theorem en_lc {wi : TI} {g : TG} {vs : List Nat} {xs : List α} (c : α → Bool) (e : α → β) (S : α → Hp → L2.St → Prop) (h : Src T wi σ G xs) (hz : xs.length ≤ 50000)
    (hg : ∀ x ∈ xs, ∀ G', Ex G G' → Tgt T g (wipe σ vs) G' x (S x)) (hw : ∀ x G' σ2, S x G' σ2 → wipe σ2 vs = wipe σ vs)
    (ht : ∀ x ∈ xs, ∀ G' σ2, Ex G G' → S x G' σ2 → EvT T t σ2 G' (c x)) (he : ∀ x ∈ xs, c x = true → ∀ G' σ2, Ex G G' → S x G' σ2 → Ev T te σ2 G' (e x)) :
    EvN T (tLc wi g t te vs) σ G ((xs.filter c).map e) := fun H k Q q => h H k _ fun J G1 H1 n1 w Dl hD => by
  refine lc_it w (fun i H' => ∃ G' ws, Nx T G H G' H' ∧ Ex G1 G' ∧ G' Dl = none ∧ H' Dl = some (.lst ws) ∧ DqAll G' ws ((((xs.take i).filter c).map e).map enc))
    ⟨G1, [], n1.trans (Nx.fresh n1.kn hD), Ex.refl G1, n1.kn.none hD, upd_same, by simpa using DqAll.nil⟩ (fun i H' _ ⟨G', ws, n, e1, _⟩ => ⟨G', e1, n.kn.le⟩) ?_ ?_
  · rintro i v H' H'' hi ⟨G', ws, n, e1, hG, hp, hr⟩ ⟨x, hx, hy⟩
    obtain ⟨G2, n2, r2⟩ := hy G' e1 n.kn
    have hxm : x ∈ xs := List.mem_of_getElem? hx
    have nn := n.trans n2
    have hG2 : G2 Dl = none := n2.out hG hp fun xs z => by cases z
    have hp2 : H'' Dl = some (.lst ws) := n2.keep Dl _ hp fun ps z => by cases z
    refine hg x hxm G2 nn.ex v G2 H'' (Ex.refl G2) n2.kn r2 _ fun σ2 s2 => ⟨hw x G2 σ2 s2, ?_⟩
    have hl := da_len hr
    rw [List.length_map, List.length_map] at hl
    have hl2 : ((xs.take i).filter c).length ≤ xs.length := Nat.le_trans (List.length_filter_le _ _) (by rw [List.length_take]; omega)
    refine lc_turn nn (n1.dom Dl hD) hG2 hp2 (by omega) (ht x hxm G2 σ2 nn.ex s2) (fun hc => he x hxm hc G2 σ2 nn.ex s2) (fun hc G3 H3 n3 e3 g3 p3 => ?_) fun hc v3 G3 H3 n3 e3 g3 p3 r3 => ?_
    · refine ⟨G3, ws, n3, (e1.trans n2.ex).trans e3, g3, p3, ?_⟩
      rw [take_step hx, List.filter_append, List.filter_cons, if_neg (by rw [hc]; decide)]
      show DqAll G3 ws ((((xs.take i).filter c ++ []).map e).map enc)
      rw [List.append_nil]
      exact da_ex (n2.ex.trans e3) hr
    · refine ⟨G3, _, n3, (e1.trans n2.ex).trans e3, g3, p3, ?_⟩
      rw [take_step hx, List.filter_append, List.filter_cons, if_pos hc, List.map_append, List.map_append]
      exact da_app (da_ex (n2.ex.trans e3) hr) (.cons r3 .nil)
  · rintro H' ⟨G', ws, n, e1, hG, hp, hr⟩
    rw [List.take_length] at hr
    exact q Dl ws G' H' n (n1.dom Dl hD) hG hp hr
/-- [e for g in xs if c for g1 in ys if c1] -/
theorem en_lc2 {wi wi1 : TI} {g g1 : TG} {t1 : TT} {vs vs1 : List Nat} {xs : List α} (c : α → Bool) (ys : α → List γ) (c1 : α → γ → Bool) (e : α → γ → β) (S : α → Hp → L2.St → Prop) (S1 : α → γ → Hp → L2.St → Prop) (h : Src T wi σ G xs) (hz : xs.length ≤ 100) (hz1 : ∀ x ∈ xs, (ys x).length ≤ 100)
    (hg : ∀ x ∈ xs, ∀ G', Ex G G' → Tgt T g (wipe σ vs) G' x (S x)) (hw : ∀ x G' σ2, S x G' σ2 → wipe σ2 vs = wipe σ vs)
    (ht : ∀ x ∈ xs, ∀ G' σ2, Ex G G' → S x G' σ2 → EvT T t σ2 G' (c x)) (h1 : ∀ x ∈ xs, c x = true → ∀ G' σ2, Ex G G' → S x G' σ2 → Src T wi1 σ2 G' (ys x))
    (hg1 : ∀ x ∈ xs, ∀ G' σ2, Ex G G' → S x G' σ2 → ∀ y ∈ ys x, ∀ G2, Ex G' G2 → Tgt T g1 (wipe σ2 vs1) G2 y (fun G3 σ3 => wipe σ3 vs1 = wipe σ2 vs1 ∧ S1 x y G3 σ3))
    (ht1 : ∀ x ∈ xs, ∀ y ∈ ys x, ∀ G' σ3, Ex G G' → S1 x y G' σ3 → EvT T t1 σ3 G' (c1 x y)) (he : ∀ x ∈ xs, ∀ y ∈ ys x, c1 x y = true → ∀ G' σ3, Ex G G' → S1 x y G' σ3 → Ev T te σ3 G' (e x y)) :
    EvN T (tLc2 wi g t wi1 g1 t1 te vs vs1) σ G ((xs.filter c).flatMap fun x => ((ys x).filter (c1 x)).map (e x)) := fun H k Q q => h H k _ fun J G1 H1 n1 w Dl hD => by
  have h0 : H Dl = none := n1.dom Dl hD
  have bnd : ∀ i, ((((xs.take i).filter c).flatMap fun x => ((ys x).filter (c1 x)).map (e x)).map enc).length ≤ 10000 := fun i => by
    rw [List.length_map]
    have key : ∀ (l : List α), (∀ x ∈ l, x ∈ xs) → ((l.filter c).flatMap fun x => ((ys x).filter (c1 x)).map (e x)).length ≤ l.length * 100 := by
      intro l
      induction l with
      | nil => intro _; simp
      | cons x l ih =>
        intro hl
        have q1 := ih fun y hy => hl y (List.mem_cons_of_mem _ hy)
        have q2 := hz1 x (hl x List.mem_cons_self)
        have q3 : (((ys x).filter (c1 x)).map (e x)).length ≤ 100 := by
          rw [List.length_map]
          exact Nat.le_trans (List.length_filter_le _ _) q2
        rw [List.filter_cons]
        split
        · rw [List.flatMap_cons, List.length_append, List.length_cons]
          omega
        · rw [List.length_cons]
          omega
    have q4 := key (xs.take i) fun x hx => List.mem_of_mem_take hx
    have q5 : (xs.take i).length ≤ 100 := by
      rw [List.length_take]
      omega
    omega
  refine ⟨fun i m H' => m = xs.length - i ∧ i ≤ xs.length ∧ ∃ G' ws, Nx T G H G' H' ∧ Ex G1 G' ∧ G' Dl = none ∧ H' Dl = some (.lst ws) ∧ DqAll G' ws ((((xs.take i).filter c).flatMap fun x => ((ys x).filter (c1 x)).map (e x)).map enc),
    ⟨xs.length, by simp, Nat.zero_le _, G1, [], n1.trans (Nx.fresh n1.kn hD), Ex.refl G1, n1.kn.none hD, upd_same, by simpa using DqAll.nil⟩, ?_⟩
  rintro i m H' ⟨rfl, hi, G', ws, n, e1, hG, hp, hr⟩
  by_cases hlt : i < xs.length
  rotate_left
  · have ei : i = xs.length := by omega
    subst ei
    rw [List.take_length] at hr
    exact .inl ⟨w.stops H' ⟨G', e1, n.kn.le⟩, q Dl ws G' H' n h0 hG hp hr⟩
  refine .inr ⟨w.goes i H' hlt ⟨G', e1, n.kn.le⟩, fun H' => ∃ G' ws, Nx T G H G' H' ∧ Ex G1 G' ∧ G' Dl = none ∧ H' Dl = some (.lst ws) ∧ DqAll G' ws ((((xs.take (i + 1)).filter c).flatMap fun x => ((ys x).filter (c1 x)).map (e x)).map enc),
    fun H' p => ⟨xs.length - (i + 1), by omega, rfl, hlt, p⟩, fun v H'' hy => ?_⟩
  obtain ⟨x, hx, hy⟩ := w.yields i H' v H'' hlt ⟨G', e1, n.kn.le⟩ hy
  obtain ⟨G2, n2, r2⟩ := hy G' e1 n.kn
  have hxm : x ∈ xs := List.mem_of_getElem? hx
  have nn := n.trans n2
  have stay : ∀ {A B A2 B2 : Hp} {us : List V}, Nx T A B A2 B2 → A Dl = none → B Dl = some (.lst us) → A2 Dl = none ∧ B2 Dl = some (.lst us) := fun m e1 e2 => by
    exact ⟨m.out e1 e2 (fun xs z => by cases z), m.keep Dl _ e2 (fun ps z => by cases z)⟩
  obtain ⟨hG2, hp2⟩ := stay n2 hG hp
  refine hg x hxm G2 nn.ex v G2 H'' (Ex.refl G2) n2.kn r2 _ fun σ2 s2 => ⟨hw x G2 σ2 s2, ?_⟩
  refine ht x hxm G2 σ2 nn.ex s2 H'' n2.kn _ fun G3 H3 n3 => ?_
  obtain ⟨hG3, hp3⟩ := stay n3 hG2 hp2
  have nn3 := nn.trans n3
  have e13 : Ex G1 G3 := (e1.trans n2.ex).trans n3.ex
  cases hc : c x with
  | false =>
    refine iteF ⟨G3, ws, nn3, e13, hG3, hp3, ?_⟩
    rw [take_step hx, List.filter_append, List.filter_cons, if_neg (by rw [hc]; decide)]
    show DqAll G3 ws ((((xs.take i).filter c ++ []).flatMap _).map enc)
    rw [List.append_nil]
    exact da_ex (n2.ex.trans n3.ex) hr
  | true =>
    refine iteT ?_
    have src := h1 x hxm hc G2 σ2 nn.ex s2
    -- the inner source, from the same slots, a little later
    have src3 : ∀ H, Kn T G3 H → ∀ R : It → Hp → Prop, (∀ J G4 H4, Nx T G3 H G4 H4 → Walk J (ys x).length (fun H' => ∃ G', Ex G4 G' ∧ Ex G' H') (fun i H' v H'' => ∃ y, (ys x)[i]? = some y ∧ ∀ G', Ex G4 G' → Kn T G' H' → ∃ G'', Nx T G' H' G'' H'' ∧ IsE y G'' v) → R J H4) → wi1 σ2 H R := fun H k3 R q3 =>
      src H (k3.sub n3.ex) R fun J G4 H4 n4 w4 => by
        obtain ⟨G5, e5, n5⟩ := n4.mono k3 n3.ex
        exact q3 J G5 H4 n5 (w4.mono (fun H' ⟨G', a, b⟩ => ⟨G', e5.trans a, b⟩) fun i H' v H'' _ _ ⟨y, a, b⟩ => ⟨y, a, fun G' c d => b G' (e5.trans c) d⟩)
    refine src3 H3 n3.kn _ fun J1 G4 H4 n4 w1 => ?_
    obtain ⟨hG4, hp4⟩ := stay n4 hG3 hp3
    refine ⟨fun j m H' => m = (ys x).length - j ∧ j ≤ (ys x).length ∧ ∃ G' us, Nx T G H G' H' ∧ Ex G4 G' ∧ G' Dl = none ∧ H' Dl = some (.lst us) ∧ DqAll G' us (((((xs.take i).filter c).flatMap fun x => ((ys x).filter (c1 x)).map (e x)) ++ (((ys x).take j).filter (c1 x)).map (e x)).map enc),
      ⟨(ys x).length, by simp, Nat.zero_le _, G4, ws, nn3.trans n4, Ex.refl G4, hG4, hp4, by
        simp only [List.take_zero, List.filter_nil, List.map_nil, List.append_nil]
        exact da_ex ((n2.ex.trans n3.ex).trans n4.ex) hr⟩, ?_⟩
    rintro j m H5 ⟨rfl, hj, G5, us, n5, e45, hG5, hp5, hr5⟩
    by_cases hjl : j < (ys x).length
    rotate_left
    · have ej : j = (ys x).length := by omega
      subst ej
      refine .inl ⟨w1.stops H5 ⟨G5, e45, n5.kn.le⟩, G5, us, n5, (e13.trans n4.ex).trans e45, hG5, hp5, ?_⟩
      rw [List.take_length] at hr5
      rw [take_step hx, List.filter_append, List.filter_cons, if_pos hc]
      show DqAll G5 us ((((xs.take i).filter c ++ [x]).flatMap _).map enc)
      rw [List.flatMap_append, List.flatMap_cons, List.flatMap_nil, List.append_nil]
      exact hr5
    refine .inr ⟨w1.goes j H5 hjl ⟨G5, e45, n5.kn.le⟩, fun H' => ∃ G' us, Nx T G H G' H' ∧ Ex G4 G' ∧ G' Dl = none ∧ H' Dl = some (.lst us) ∧ DqAll G' us (((((xs.take i).filter c).flatMap fun x => ((ys x).filter (c1 x)).map (e x)) ++ (((ys x).take (j + 1)).filter (c1 x)).map (e x)).map enc),
      fun H' p => ⟨(ys x).length - (j + 1), by omega, rfl, hjl, p⟩, fun v5 H6 hy5 => ?_⟩
    obtain ⟨y, hyj, hy6⟩ := w1.yields j H5 v5 H6 hjl ⟨G5, e45, n5.kn.le⟩ hy5
    obtain ⟨G6, n6, r6⟩ := hy6 G5 e45 n5.kn
    have hym : y ∈ ys x := List.mem_of_getElem? hyj
    obtain ⟨hG6, hp6⟩ := stay n6 hG5 hp5
    have nn6 := n5.trans n6
    have e26 : Ex G2 G6 := ((n3.ex.trans n4.ex).trans e45).trans n6.ex
    refine hg1 x hxm G2 σ2 nn.ex s2 y hym G6 e26 v5 G6 H6 (Ex.refl G6) n6.kn r6 _ fun σ3 ⟨w3, s3⟩ => ⟨w3, ?_⟩
    have hl := da_len hr5
    have hb := bnd i
    have hy1 := hz1 x hxm
    rw [List.map_append, List.length_append] at hl
    have hl2 : (List.map enc (((ys x).take j).filter (c1 x) |>.map (e x))).length ≤ 100 := by
      rw [List.length_map, List.length_map]
      exact Nat.le_trans (List.length_filter_le _ _) (by rw [List.length_take]; omega)
    refine lc_turn nn6 h0 hG6 hp6 (by omega) (ht1 x hxm y hym G6 σ3 nn6.ex s3) (fun hc1 => he x hxm y hym hc1 G6 σ3 nn6.ex s3) (fun hc1 G7 H7 n7 e7 g7 p7 => ?_) fun hc1 v7 G7 H7 n7 e7 g7 p7 r7 => ?_
    · refine ⟨G7, us, n7, (e45.trans n6.ex).trans e7, g7, p7, ?_⟩
      rw [take_step hyj, List.filter_append, List.filter_cons, if_neg (by rw [hc1]; decide)]
      show DqAll G7 us ((_ ++ (((ys x).take j).filter (c1 x) ++ []).map (e x)).map enc)
      rw [List.append_nil]
      exact da_ex (n6.ex.trans e7) hr5
    · refine ⟨G7, _, n7, (e45.trans n6.ex).trans e7, g7, p7, ?_⟩
      rw [take_step hyj, List.filter_append, List.filter_cons, if_pos hc1]
      show DqAll G7 (us ++ [v7]) ((_ ++ (((ys x).take j).filter (c1 x) ++ [y]).map (e x)).map enc)
      rw [List.map_append (f := e x), ← List.append_assoc, List.map_append (f := enc)]
      exact da_app (da_ex (n6.ex.trans e7) hr5) (.cons r7 .nil)
end
end Ed

set_option Elab.async false
set_option linter.all false
set_option maxRecDepth 100000
namespace Ed
open PySem PySem.Spec PyProof.Rows L2 LamX
open Ed.Enc (enc)
section
variable {T : Tbs} {K : PySem.W.Frag} {σ : L2.St} {G G2 H : Hp} {ta tb te tl : TE} {t u : TT} {R R' R'' : Rp} {α β γ : Type} [Enc α] [Enc β] [Enc γ] {x y : α} {D : Ends} {tz tu tw : TS} {g : TG}

theorem q_asg {i : Nat} (k : Kn T G H) (h : EvR T te σ G R) (c : ∀ v G2 H2, Nx T G H G2 H2 → R G2 v → tz D (σ.set i (some v)) H2) : tSeq (tAsg te (gName i)) tz D σ H := h H k _ fun v G2 H2 n r => c v G2 H2 n r
theorem q_asgN {i : Nat} {xs : List α} (k : Kn T G H) (h : EvN T te σ G xs) (c : ∀ p vs G2 H2, Nx T G H G2 H2 → H p = none → G2 p = none → H2 p = some (.lst vs) → DqAll G2 vs (xs.map enc) → tz D (σ.set i (some (.ref p))) H2) :
    tSeq (tAsg te (gName i)) tz D σ H := h H k _ fun p vs G2 H2 n h0 hG hp r => c p vs G2 H2 n h0 hG hp r
theorem q_asgG {S : Hp → L2.St → Prop} (k : Kn T G H) (h : Ev T te σ G x) (hg : ∀ G', Ex G G' → Tgt T g σ G' x S) (c : ∀ σ2 G2 H2, Nx T G H G2 H2 → S G2 σ2 → tz D σ2 H2) : tSeq (tAsg te g) tz D σ H :=
  h H k _ fun v G2 H2 n r => hg G2 n.ex v G2 H2 (Ex.refl G2) n.kn r _ fun σ2 s => c σ2 G2 H2 n s
theorem q_par {i j : Nat} (m : Mono R) (m' : Mono R') (k : Kn T G H) (ha : EvR T ta σ G R) (hb : EvR T tb σ G R') (c : ∀ v w G2 H2, Nx T G H G2 H2 → R G2 v → R' G2 w → tz D ((σ.set i (some v)).set j (some w)) H2) : tSeq (tPar i j (tCons ta (tCons tb tNil))) tz D σ H :=
  ha H k _ fun v G1 H1 n1 r1 => hb.mono m' n1.ex H1 n1.kn _ fun w G2 H2 n2 r2 => ⟨v, w, rfl, c v w G2 H2 (n1.trans n2) (m.ex n2.ex r1) r2⟩
theorem q_drop (k : Kn T G H) (h : EvR T te σ G R) (c : ∀ v G2 H2, Nx T G H G2 H2 → R G2 v → tz D σ H2) : tSeq (tDrop te) tz D σ H := h H k _ fun v G2 H2 n r => c v G2 H2 n r
theorem s_drop (k : Kn T G H) (h : EvR T te σ G R) (c : ∀ v G2 H2, Nx T G H G2 H2 → R G2 v → D.nx σ H2) : tDrop te D σ H := h H k _ fun v G2 H2 n r => c v G2 H2 n r
theorem s_ret (k : Kn T G H) (h : EvR T te σ G R) (c : ∀ v G2 H2, Nx T G H G2 H2 → R G2 v → D.rt v H2) : tRet te D σ H := h H k _ fun v G2 H2 n r => c v G2 H2 n r
theorem s_retN {xs : List α} (k : Kn T G H) (h : EvN T te σ G xs) (c : ∀ p vs G2 H2, Nx T G H G2 H2 → H p = none → G2 p = none → H2 p = some (.lst vs) → DqAll G2 vs (xs.map enc) → D.rt (.ref p) H2) : tRet te D σ H :=
  h H k _ fun p vs G2 H2 n h0 hG hp r => c p vs G2 H2 n h0 hG hp r
theorem q_if {b : Bool} (k : Kn T G H) (h : EvT T t σ G b) (h1 : b = true → ∀ G2 H2, Nx T G H G2 H2 → tu { D with nx := tz D } σ H2) (h2 : b = false → ∀ G2 H2, Nx T G H G2 H2 → tw { D with nx := tz D } σ H2) : tSeq (tIfS t tu tw) tz D σ H := h H k _ fun G2 H2 n => by
  cases b with
  | true => exact iteT (h1 rfl G2 H2 n)
  | false => exact iteF (h2 rfl G2 H2 n)
theorem s_if {b : Bool} (k : Kn T G H) (h : EvT T t σ G b) (h1 : b = true → ∀ G2 H2, Nx T G H G2 H2 → tu D σ H2) (h2 : b = false → ∀ G2 H2, Nx T G H G2 H2 → tw D σ H2) : tIfS t tu tw D σ H := h H k _ fun G2 H2 n => by
  cases b with
  | true => exact iteT (h1 rfl G2 H2 n)
  | false => exact iteF (h2 rfl G2 H2 n)
/-- a refusal, or an early end, that is not taken -/
theorem q_skip (k : Kn T G H) (h : EvT T t σ G false) (c : ∀ G2 H2, Nx T G H G2 H2 → tz D σ H2) : tSeq (tIfS t tu tNext) tz D σ H := h H k _ fun G2 H2 n => iteF (c G2 H2 n)
theorem s_skip (k : Kn T G H) (h : EvT T t σ G false) (c : ∀ G2 H2, Nx T G H G2 H2 → D.nx σ H2) : tIfS t tu tNext D σ H := h H k _ fun G2 H2 n => iteF (c G2 H2 n)

def Flat (R : Rp) : Prop := ∀ G G' v, R G v → R G' v
theorem flat_int {i : Int} : Flat (IsE i) := fun G G' v h => by
  rw [dq_int h]
  exact .int i
theorem flat_bool {b : Bool} : Flat (IsE b) := fun G G' v h => by
  rw [dq_bool h]
  exact .bl b
theorem stays {p : Addr} {o : HO} {G2 H2 : Hp} (n : Nx T G H G2 H2) (hG : G p = none) (hp : H p = some o) (nt : ∀ ps, o ≠ .tbl ps) (nu : ∀ xs, o ≠ .tup xs) : G2 p = none ∧ H2 p = some o := ⟨n.out hG hp nu, n.keep p _ hp nt⟩
theorem held {p : Addr} {o : HO} (h : EvR T te σ (upd G p o) R) (f : Flat R) (k : Kn T G H) (hG : G p = none) (hp : H p = some o) (nt : ∀ ps, o ≠ .tbl ps) {Q : VK} (q : ∀ v G2 H2, Nx T G H G2 H2 → G2 p = none → H2 p = some o → R G2 v → Q v H2) : te σ H Q :=
  h H (k.freeze hp nt) _ fun v G2 H2 n r => q v (hid p G2) H2 (n.hide hG) hid_at (n.keep p _ hp nt) (f _ _ v r)
theorem heldT {p : Addr} {o : HO} {b : Bool} (h : EvT T t σ (upd G p o) b) (k : Kn T G H) (hG : G p = none) (hp : H p = some o) (nt : ∀ ps, o ≠ .tbl ps) {Q : Bool → Hp → Prop} (q : ∀ G2 H2, Nx T G H G2 H2 → G2 p = none → H2 p = some o → Q b H2) : t σ H Q :=
  h H (k.freeze hp nt) _ fun G2 H2 n => q (hid p G2) H2 (n.hide hG) hid_at (n.keep p _ hp nt)
theorem nt_lst {vs : List V} : ∀ ps, HO.lst vs ≠ .tbl ps := fun _ z => by cases z
theorem nu_lst {vs : List V} : ∀ xs, HO.lst vs ≠ .tup xs := fun _ z => by cases z
theorem nu_dT {kvs : List (List Key × V)} : ∀ xs, HO.dT kvs ≠ .tup xs := fun _ z => by cases z
theorem nt_dT {kvs : List (List Key × V)} : ∀ ps, HO.dT kvs ≠ .tbl ps := fun _ z => by cases z
/-- xs.append(e) -/
theorem q_app {p : Addr} {vs : List V} {i : Nat} (k : Kn T G H) (hi : σ[i]? = some (some (.ref p))) (hG : G p = none) (hp : H p = some (.lst vs)) (hz : vs.length < 100000) (h : EvR T te σ G R)
    (c : ∀ v G2 H2, Nx T G H G2 H2 → G2 p = none → H2 p = some (.lst vs) → R G2 v → tz D σ (upd H2 p (.lst (vs ++ [v])))) : tSeq (tDrop (tBM K "list" rAppend (tVar i) (tCons te tNil))) tz D σ H :=
  ⟨.ref p, hi, .inl ⟨rfl, vs, .inl (.inl hp)⟩, h H k _ fun v G2 H2 n r => by
    obtain ⟨g, e⟩ := stays n hG hp nt_lst nu_lst
    exact ⟨p, vs, v, rfl, rfl, e, Nat.lt_of_lt_of_le hz (by decide), c v G2 H2 n g e r⟩⟩
theorem s_app {p : Addr} {vs : List V} {i : Nat} (k : Kn T G H) (hi : σ[i]? = some (some (.ref p))) (hG : G p = none) (hp : H p = some (.lst vs)) (hz : vs.length < 100000) (h : EvR T te σ G R)
    (c : ∀ v G2 H2, Nx T G H G2 H2 → G2 p = none → H2 p = some (.lst vs) → R G2 v → D.nx σ (upd H2 p (.lst (vs ++ [v])))) : tDrop (tBM K "list" rAppend (tVar i) (tCons te tNil)) D σ H :=
  ⟨.ref p, hi, .inl ⟨rfl, vs, .inl (.inl hp)⟩, h H k _ fun v G2 H2 n r => by
    obtain ⟨g, e⟩ := stays n hG hp nt_lst nu_lst
    exact ⟨p, vs, v, rfl, rfl, e, Nat.lt_of_lt_of_le hz (by decide), c v G2 H2 n g e r⟩⟩
theorem s_clear {p : Addr} {vs : List V} {i : Nat} (hi : σ[i]? = some (some (.ref p))) (hp : H p = some (.lst vs)) (c : D.nx σ (upd H p (.lst []))) : tDrop (tBM0 K "list" rClear (tVar i)) D σ H :=
  ⟨.ref p, hi, .inl ⟨rfl, vs, .inl (.inl hp)⟩, p, vs, rfl, rfl, hp, c⟩
/-- found.append(left.pop(m)) -/
theorem s_appPop {p l : Addr} {vs ws : List V} {i j : Nat} {m : Int} {y : V} (k : Kn T G H) (hi : σ[i]? = some (some (.ref p))) (hj : σ[j]? = some (some (.ref l))) (hG : G p = none) (hl : G l = none) (hp : H p = some (.lst vs)) (hw : H l = some (.lst ws)) (ne : p ≠ l)
    (hz : vs.length < 100000) (hz2 : ws.length < 100000) (h : Ev T te σ (upd G l (.lst ws)) m) (h0 : 0 ≤ m) (hy : ws[m.toNat]? = some y)
    (c : ∀ G2 H2, Nx T G H G2 H2 → G2 p = none → G2 l = none → H2 p = some (.lst vs) → H2 l = some (.lst ws) → D.nx σ (upd (upd H2 l (.lst (ws.eraseIdx m.toNat))) p (.lst (vs ++ [y])))) :
    tDrop (tBM K "list" rAppend (tVar i) (tCons (tBM K "list" rPopAt (tVar j) (tCons te tNil)) tNil)) D σ H :=
  ⟨.ref p, hi, .inl ⟨rfl, vs, .inl (.inl hp)⟩, .ref l, hj, .inl ⟨rfl, ws, .inl (.inl hw)⟩, held h flat_int k hl hw nt_lst fun v G2 H2 n g e r => by
    rw [dq_int r]
    obtain ⟨g2, e2⟩ := stays n hG hp nt_lst nu_lst
    have hm : m.toNat < ws.length := (List.getElem?_eq_some_iff.mp hy).1
    have hk : seqIndex? m ws.length = some m.toNat := by
      have em : m = (m.toNat : Int) := (Int.toNat_of_nonneg h0).symm
      rw [em]
      unfold seqIndex?
      have a1 : ¬ ((m.toNat : Int) < 0) := by omega
      simp [a1, hm]
      refine ⟨⟨?_, ?_⟩, ?_⟩ <;> split <;> omega
    refine ⟨l, ws, m, m.toNat, y, rfl, rfl, e, by omega, by omega, hk, hy, p, vs, y, rfl, rfl, ?_, Nat.lt_of_lt_of_le hz (by decide), c G2 H2 n g2 g e2 e⟩
    rw [upd_ne ne]
    exact e2⟩

theorem keyP_inj {p q : Int × Int} (h : keyP p = keyP q) : p = q := by
  obtain ⟨a, b⟩ := p
  obtain ⟨c, d⟩ := q
  have h : ([Sum.inl a, Sum.inl b] : List Key) = [Sum.inl c, Sum.inl d] := h
  injection h with h1 h2
  injection h2 with h3 h4
  injection h1 with h5
  injection h3 with h6
  rw [h5, h6]
theorem valV_keys {kvs : List (List Key × V)} {k : List Key} : (valV kvs k).isSome = true ↔ k ∈ kvs.map (·.1) := by
  cases e : valV kvs k with
  | some v => exact ⟨fun _ => valV_in e, fun _ => rfl⟩
  | none => exact ⟨fun z => (by cases z), fun z => absurd z (valV_not e)⟩
theorem mem_keyP {ps : List (Int × Int)} {p : Int × Int} : keyP p ∈ ps.map keyP ↔ p ∈ ps := by
  rw [List.mem_map]
  constructor
  · rintro ⟨q, hq, e⟩
    rw [← keyP_inj e]
    exact hq
  · exact fun h => ⟨p, h, rfl⟩
theorem pair_at {a b : Int} {v : V} (h : IsE (a, b) G v) : ∃ q, v = .ref q ∧ G q = some (.tup ((keyP (a, b)).map kV)) := by
  have h : Dq G v (.tuple [.int a, .int b]) := h
  cases h with
  | @tup q vs _ h1 h2 =>
    cases h2 with
    | cons r1 h3 =>
      cases h3 with
      | cons r2 h4 =>
        cases h4
        cases r1
        cases r2
        exact ⟨q, rfl, h1⟩
theorem ev_dinT {ps : List (Int × Int)} {a b : Int} {ty td : TE} (hx : Ev T ty σ G (a, b)) (hd : EvR T td σ G (IsT ps)) : Ev T (tDIn ty td) σ G (decide ((a, b) ∈ ps)) := fun H k Q q =>
  hx H k _ fun v G1 H1 n1 r1 => hd.mono isT_ex n1.ex H1 n1.kn _ fun w G2 H2 n2 r2 => by
    obtain ⟨c, rfl, hc⟩ := pair_at (isD_ex.ex n2.ex r1)
    obtain ⟨d, kvs, rfl, h1, h2⟩ := r2
    refine ⟨d, valV kvs (keyP (a, b)), rfl, .inr ⟨kvs, keyP (a, b), c, .inl (n2.kn.le _ _ h1), rfl, n2.kn.le _ _ hc, rfl⟩, q _ G2 H2 (n1.trans n2) ?_⟩
    have e : (valV kvs (keyP (a, b))).isSome = decide ((a, b) ∈ ps) := by
      have z := valV_keys (kvs := kvs) (k := keyP (a, b))
      rw [h2, mem_keyP] at z
      by_cases w : (a, b) ∈ ps
      · rw [decide_eq_true w, z.mpr w]
      · rw [decide_eq_false w]
        cases y : (valV kvs (keyP (a, b))).isSome with
        | false => rfl
        | true => exact absurd (z.mp y) w
    rw [e]
    exact .bl _
theorem ev_dnotinT {ps : List (Int × Int)} {a b : Int} {ty td : TE} (hx : Ev T ty σ G (a, b)) (hd : EvR T td σ G (IsT ps)) : Ev T (tDNotIn ty td) σ G (!decide ((a, b) ∈ ps)) := fun H k Q q =>
  hx H k _ fun v G1 H1 n1 r1 => hd.mono isT_ex n1.ex H1 n1.kn _ fun w G2 H2 n2 r2 => by
    obtain ⟨c, rfl, hc⟩ := pair_at (isD_ex.ex n2.ex r1)
    obtain ⟨d, kvs, rfl, h1, h2⟩ := r2
    refine ⟨d, valV kvs (keyP (a, b)), rfl, .inr ⟨kvs, keyP (a, b), c, .inl (n2.kn.le _ _ h1), rfl, n2.kn.le _ _ hc, rfl⟩, q _ G2 H2 (n1.trans n2) ?_⟩
    have e : (valV kvs (keyP (a, b))).isSome = decide ((a, b) ∈ ps) := by
      have z := valV_keys (kvs := kvs) (k := keyP (a, b))
      rw [h2, mem_keyP] at z
      by_cases w : (a, b) ∈ ps
      · rw [decide_eq_true w, z.mpr w]
      · rw [decide_eq_false w]
        cases y : (valV kvs (keyP (a, b))).isSome with
        | false => rfl
        | true => exact absurd (z.mp y) w
    rw [e]
    exact .bl _
theorem putK_keys {κ : Type} [DecidableEq κ] {kvs : List (κ × V)} {k : κ} {v : V} : (putK kvs k v).map (·.1) = if k ∈ kvs.map (·.1) then kvs.map (·.1) else kvs.map (·.1) ++ [k] := by
  cases e : valV kvs k with
  | none =>
    rw [if_neg (valV_not e), putK_new v e, List.map_append]
    rfl
  | some w =>
    rw [if_pos (valV_in e)]
    have hk : (kvs.any fun kv => decide (kv.1 = k)) = true := by
      obtain ⟨q, hq, eq⟩ := List.mem_map.mp (valV_in e)
      exact List.any_eq_true.mpr ⟨q, hq, decide_eq_true eq⟩
    unfold putK
    rw [if_pos hk, List.map_map]
    refine List.map_congr_left fun q _ => ?_
    show (if q.1 = k then (q.1, v) else q).1 = q.1
    split <;> rfl
/-- d[(a, b)] = True -/
theorem s_put {p : Addr} {kvs : List (List Key × V)} {ps : List (Int × Int)} {i : Nat} {a b : Int} {ty : TE} {w : V} (k : Kn T G H) (hi : σ[i]? = some (some (.ref p))) (hG : G p = none) (hp : H p = some (.dT kvs)) (hk : kvs.map (·.1) = ps.map keyP) (hz : kvs.length < 100000) (hx : Ev T ty σ G (a, b))
    (c : ∀ kvs' G2 H2, Nx T G H G2 H2 → G2 p = none → H2 p = some (.dT kvs) → kvs'.map (·.1) = (Sw.putP ps (a, b)).map keyP → D.nx σ (upd H2 p (.dT kvs'))) : sDPut (tVar i) ty (tC w) D σ H :=
  ⟨.ref p, hi, hx H k _ fun v G2 H2 n r => by
    obtain ⟨q, rfl, hq⟩ := pair_at r
    obtain ⟨g, e⟩ := stays n hG hp nt_dT nu_dT
    refine ⟨p, _, rfl, .inr ⟨kvs, keyP (a, b), q, e, rfl, n.kn.le _ _ hq, Nat.lt_of_lt_of_le hz (by decide), rfl⟩, c _ G2 H2 n g e ?_⟩
    rw [putK_keys, hk]
    unfold Sw.putP
    by_cases z : (a, b) ∈ ps
    · rw [if_pos (mem_keyP.mpr z), if_pos z]
    · rw [if_neg (fun y => z (mem_keyP.mp y)), if_neg z, List.map_append]
      rfl⟩

def pairV (H : Hp) : V → Int × Int
  | .ref t => match H t with
    | some (.tup [.int a, .int b]) => (a, b)
    | _ => (0, 0)
  | _ => (0, 0)
theorem pairV_of {p : Int × Int} {v : V} (h : IsE p G v) (e : Ex G H) : (∃ t, v = .ref t ∧ H t = some (.tup [.int p.1, .int p.2])) ∧ pairV H v = p := by
  obtain ⟨t, rfl, ht⟩ := pair_at (a := p.1) (b := p.2) h
  have ht2 : H t = some (.tup [.int p.1, .int p.2]) := e _ _ ht
  refine ⟨⟨t, rfl, ht2⟩, ?_⟩
  simp only [pairV, ht2]
theorem pairsV_of : ∀ {ps : List (Int × Int)} {vs : List V}, DqAll G vs (ps.map enc) → Ex G H → (∀ v ∈ vs, ∃ t, v = V.ref t ∧ H t = some (.tup [.int (pairV H v).1, .int (pairV H v).2]) ∧ IsE (pairV H v) G v) ∧ vs.map (pairV H) = ps
  | [], _, .nil, _ => ⟨fun _ h => (by cases h), rfl⟩
  | p :: ps, _, .cons h t, e => by
    obtain ⟨⟨q, rfl, hq⟩, hp⟩ := pairV_of (p := p) h e
    obtain ⟨i1, i2⟩ := pairsV_of t e
    refine ⟨fun v hv => ?_, by rw [List.map_cons, hp, i2]⟩
    rcases List.mem_cons.mp hv with z | z
    · subst z
      rw [hp]
      exact ⟨q, rfl, hq, h⟩
    · exact i1 v z
theorem da_of_mem : ∀ {vs : List V} {f : V → Int × Int}, (∀ v ∈ vs, IsE (f v) G v) → DqAll G vs ((vs.map f).map enc)
  | [], _, _ => .nil
  | v :: vs, f, h => .cons (h v List.mem_cons_self) (da_of_mem fun w hw => h w (List.mem_cons_of_mem _ hw))
theorem en_sortedP {ps : List (Int × Int)} (h : Ev T te σ G ps) : EvN T (tCB (rSortedPO K) (tCons te tNil)) σ G (Sw.srtP ps) := fun H k Q q => h H k _ fun v G1 H1 n1 r1 => by
  have r1 : Dq G1 v (.list (ps.map enc)) := r1
  cases r1 with
  | @lst a vs _ h1 h2 =>
    obtain ⟨i1, i2⟩ := pairsV_of (H := H1) h2 n1.kn.le
    refine ⟨a, vs, pairV H1, rfl, .inl (.inl (n1.kn.le _ _ h1)), fun x hx => ?_, fun ys p hs hb hp => ?_⟩
    · obtain ⟨t, e1, e2, _⟩ := i1 x hx
      exact ⟨t, e1, e2⟩
    · refine q p ys G1 _ (n1.trans (Nx.fresh n1.kn hp)) (n1.dom p hp) (n1.kn.none hp) upd_same ?_
      have em : ys.map (pairV H1) = Sw.srtP ps := by
        refine Sw.srtP_uniq ?_ ?_
        · rw [← i2]
          exact hb.perm.map _
        · rw [List.pairwise_map]
          refine hs.imp fun {x y} z => ?_
          rw [Sw.leP_iff]
          have z : SrtO.lexB (pairV H1 y) (pairV H1 x) = false := z
          have w : ¬ ((pairV H1 y).1 < (pairV H1 x).1 ∨ ((pairV H1 y).1 = (pairV H1 x).1 ∧ (pairV H1 y).2 < (pairV H1 x).2)) := fun u => by
            rw [SrtO.lexB_iff.mpr u] at z
            cases z
          omega
      rw [← em]
      exact da_of_mem fun v hv => (i1 v (hb.perm.mem_iff.mp hv)).elim fun t ht => ht.2.2

def rIsiOf (K : PySem.W.Frag) := rIsi K
theorem ev_isi {b : Bool} {cls : String} (m : Mono R) (h : EvR T te σ G R) (ht : ∀ v G' H', Ex G' H' → R G' v → ∃ t, TyX K H' v (.type t) ∧ kitB t cls = some b) : Ev T (tCB (rIsi K) (tCons te (tCons (tC (.ty cls)) tNil))) σ G b := fun H k Q q =>
  h H k _ fun v G1 H1 n1 r1 => by
    obtain ⟨t, h1, h2⟩ := ht v G1 H1 n1.kn.le r1
    exact ⟨v, .ty cls, .type t, .type cls, b, rfl, .ty cls, h1, kit_ty h2, q _ G1 H1 n1 (.bl _)⟩
theorem ty_int {i : Int} {v : V} {G' H' : Hp} (h : IsE i G' v) : TyX K H' v (.type "int") := by
  rw [dq_int h]
  exact .base (.int i)
theorem ty_list {xs : List α} {v : V} {G' H' : Hp} (e : Ex G' H') (h : IsE xs G' v) : TyX K H' v (.type "list") := by
  have h : Dq G' v (.list (xs.map enc)) := h
  cases h with
  | lst h1 h2 => exact .base (.lst (e _ _ h1))
theorem ty_pair {p : α × β} {v : V} {G' H' : Hp} (e : Ex G' H') (h : IsE p G' v) : TyX K H' v (.type "tuple") := by
  have h : Dq G' v (.tuple [enc p.1, enc p.2]) := h
  cases h with
  | tup h1 h2 => exact .base (.tup (e _ _ h1))
end
end Ed

set_option Elab.async false
set_option linter.all false
set_option maxRecDepth 100000
namespace Ed
open PySem PySem.Spec PyProof.Rows L2 LamX
open Ed.Enc (enc)
/-- a op b op b' op c -/
def tChain3 (r1 r2 r3 : R2) (ta tb tc td : TE) : TE := fun σ H Q => ta σ H fun x H1 => tb σ H1 fun y H2 => r1 x y H2 fun z H3 => ∃ k, z = .bl k ∧
  (if k = true then tc σ H3 fun y2 H4 => r2 y y2 H4 fun z2 H5 => ∃ k2, z2 = .bl k2 ∧ (if k2 = true then td σ H5 fun y3 H6 => r3 y2 y3 H6 Q else Q (.bl false) H5) else Q (.bl false) H3)
section
variable {X : Cx} {a b c d : Expr} {ta tb tc td : TE} {pos : Pos}
theorem pe_chain3 {op1 op2 op3 : CmpOp} {r1 r2 r3 : R2} (h1 : OpR X (compareOp op1) r1) (h2 : OpR X (compareOp op2) r2) (h3 : OpR X (compareOp op3) r3) (ha : PE X a ta) (hb : PE X b tb) (hc : PE X c tc) (hd : PE X d td)
    (hm : lastMarks [op1, op2, op3] [b, c, d] = false := by with_unfolding_all rfl) : PE X (.Compare a [op1, op2, op3] [b, c, d] pos) (tChain3 r1 r2 r3 ta tb tc td) := by
  constructor
  intro pins s σ H Q I h
  refine Compare_chain (thn (ha.run pins s σ H _ I h) fun v s1 ⟨x, H1, I1, w1, q1⟩ => ?_) hm
  refine chain_link (thn (hb.run pins s1 σ H1 _ I1 q1) fun u s2 ⟨y, H2, I2, w2, q2⟩ => thn (h1 pins s2 σ H2 x y v u _ I2 w1 w2 q2) fun e s3 ⟨z, H3, I3, w3, k, ek, q3⟩ => ?_)
  subst ek
  cases w3
  refine wpAny_truthy_bool ?_
  cases k
  · exact ite_ff ⟨V.bl false, H3, I3, rfl, q3⟩
  refine ite_tt (chain_link (thn (hc.run pins s3 σ H3 _ I3 q3) fun u2 s4 ⟨y2, H4, I4, w4, q4⟩ => thn (h2 pins s4 σ H4 y y2 u u2 _ I4 w2 w4 q4) fun e2 s5 ⟨z2, H5, I5, w5, k2, ek2, q5⟩ => ?_))
  subst ek2
  cases w5
  refine wpAny_truthy_bool ?_
  cases k2
  · exact ite_ff ⟨V.bl false, H5, I5, rfl, q5⟩
  exact ite_tt (chain_last (thn (hd.run pins s5 σ H5 _ I5 q5) fun u3 s6 ⟨y3, H6, I6, w6, q6⟩ => h3 pins s6 σ H6 y2 y3 u2 u3 Q I6 w4 w6 q6))
end
section
variable {T : Tbs} {σ : L2.St} {G : Hp} {ta tb tc td : TE}
theorem ev_chainI {f g : Int → Int → Bool} {i j l : Int} (ha : Ev T ta σ G i) (hb : Ev T tb σ G j) (hc : Ev T tc σ G l) : Ev T (tChain (rI0 fun i j => .bl (f i j)) (rI0 fun i j => .bl (g i j)) ta tb tc) σ G (f i j && g j l) :=
  ev_chain isD_ex isD_ex isD_ex ha hb (fun x y G1 H1 _ rx ry Q q => ⟨i, j, dq_int rx, dq_int ry, q⟩) (fun _ => hc) fun _ x y G1 H1 _ rx ry Q q => ⟨j, l, dq_int rx, dq_int ry, q⟩
theorem ev_chainI3 {f g h : Int → Int → Bool} {i j l m : Int} (ha : Ev T ta σ G i) (hb : Ev T tb σ G j) (hc : Ev T tc σ G l) (hd : Ev T td σ G m) :
    Ev T (tChain3 (rI0 fun i j => .bl (f i j)) (rI0 fun i j => .bl (g i j)) (rI0 fun i j => .bl (h i j)) ta tb tc td) σ G (f i j && (g j l && h l m)) := fun H k Q q =>
  ha H k _ fun v G1 H1 n1 r1 => EvR.mono isD_ex hb n1.ex H1 n1.kn _ fun w G2 H2 n2 r2 => ⟨i, j, dq_int r1, dq_int r2, f i j, rfl, by
    have fin : ∀ (bb : Bool) (G' : Hp), bb = (f i j && (g j l && h l m)) → IsE (f i j && (g j l && h l m)) G' (.bl bb) := fun bb G' e => by
      rw [← e]
      exact .bl bb
    cases e1 : f i j with
    | false => exact iteF (q _ G2 H2 (n1.trans n2) (fin _ _ (by rw [e1]; rfl)))
    | true =>
      refine iteT (EvR.mono isD_ex hc (n1.ex.trans n2.ex) H2 n2.kn _ fun z G3 H3 n3 r3 => ⟨j, l, dq_int r2, dq_int r3, g j l, rfl, ?_⟩)
      cases e2 : g j l with
      | false => exact iteF (q _ G3 H3 ((n1.trans n2).trans n3) (fin _ _ (by rw [e1, e2]; rfl)))
      | true => exact iteT (EvR.mono isD_ex hd ((n1.ex.trans n2.ex).trans n3.ex) H3 n3.kn _ fun y G4 H4 n4 r4 => ⟨l, m, dq_int r3, dq_int r4, q _ G4 H4 (((n1.trans n2).trans n3).trans n4) (fin _ _ (by rw [e1, e2]; rfl))⟩)⟩
end
end Ed

set_option Elab.async false
set_option linter.all false
set_option maxRecDepth 100000
namespace Ed
open PySem PySem.Spec PyProof.Rows L2 LamX
open Ed.Enc (enc)
/-- an entry whose key is a tuple, by a comprehension -/
theorem dT_set {X : Cx} {pins : List (Addr × Obj)} {σ : L2.St} {H : Hp} {s : Shared} {E : Value → Shared → Prop} {D c : Addr} {kvs : List (List Key × V)} {ks : List Key} {v : V} {r : Value} {Q : Unit → Shared → Prop} (hu : X.A.units + 1 < cLine) (I : Inv X pins σ H s)
    (hD : H D = some (.dT kvs)) (hc : H c = some (.tup (ks.map kV))) (hz : kvs.length < sizeLine) (rv : RelV v r) (fin : ∀ s', Inv X pins σ (upd H D (.dT (putK kvs ks v))) s' → Q () s') : wpAny (model X.prog X.w) X.A (dictSet D (.ref c) r) Q E s := by
  obtain ⟨z1, z2, ents, rel, dd⟩ := dt_of I.hok hD
  have z3 : ents.length ≤ sizeLine := Nat.le_trans (Nat.le_of_eq (Paired.length rel).symm) z1
  have z4 : (putK kvs ks v).length ≤ sizeLine := by
    have w1 := length_putK kvs ks v
    omega
  refine wpAny_dictSet_heap (hsz := z3) (show X.A.units < cLine by omega) (key_of I.hok hc) dd fun g dg sg => fin _ ?_
  obtain ⟨ob, es, ep, g1, g2, g3, g4, _, g5⟩ := dg
  refine d_write I (by rw [hD]; trivial) sg ⟨ob, g1⟩ ⟨z4, z2, _, (rel.put ks hc rv).keeps fun b ys eb => ?_, ob, es, ep, g1, g2, g3, g4, g5⟩
  exact (upd_ne (ne_of eb hD fun z => by cases z)).trans eb
section
variable {X : Cx}
def tDcT (wi : TI) (g : TG) (tt : TT) (tk tv : TE) (vs : List Nat) : TE := fun σ H Q => wi σ H fun J A1 => ∀ D, A1 D = none → ∃ W : Nat → Nat → Hp → Prop, (∃ m, W 0 m (upd A1 D (.dT []))) ∧ ∀ i m B, W i m B →
  (J.stop i B ∧ Q (.ref D) B) ∨ (J.go i B ∧ ∃ Next : Hp → Prop, (∀ B', Next B' → ∃ m', m' < m ∧ W (i + 1) m' B') ∧ ∀ x B', J.yld i B x B' → g x (wipe σ vs) B' fun σ2 B2 => wipe σ2 vs = wipe σ vs ∧ tt σ2 B2 fun b B3 =>
    if b = true then tk σ2 B3 fun y B4 => tv σ2 B4 fun z B5 => ∃ kvs ks c, y = .ref c ∧ B5 c = some (.tup (ks.map kV)) ∧ B5 D = some (.dT kvs) ∧ kvs.length < sizeLine ∧ Next (upd B5 D (.dT (putK kvs ks z))) else Next B3)
theorem pe_dcT {kx vx tg iter : Expr} {ifs : List Expr} {scope : Scope} {own : List (Str × Nat)} {pos : Pos} {wi : TI} {g : TG} {tt : TT} {tk tv : TE} (hu : X.A.units + 1 < cLine) (calm : X.calm = true) (nd : X.N.Nodup) (pi : PI X tg iter wi) (blk : BlkOk X.N X.env.scope scope own)
    (pg0 : ∀ (s : Shared) (H : Hp) (C : Addr) (cl : List (Str × Addr)) (fp : List Addr), PG (X.blk s H scope (compEnvC scope cl C X.env) fp) tg g) (pt0 : ∀ (s : Shared) (H : Hp) (C : Addr) (cl : List (Str × Addr)) (fp : List Addr), PTs (X.blk s H scope (compEnvC scope cl C X.env) fp) ifs tt)
    (pk0 : ∀ (s : Shared) (H : Hp) (C : Addr) (cl : List (Str × Addr)) (fp : List Addr), PE (X.blk s H scope (compEnvC scope cl C X.env) fp) kx tk) (pv0 : ∀ (s : Shared) (H : Hp) (C : Addr) (cl : List (Str × Addr)) (fp : List Addr), PE (X.blk s H scope (compEnvC scope cl C X.env) fp) vx tv)
    (fold : ∀ x, foldedSetIterable iter X.env x = pure x := by intro _; rfl) : PE X (.DictComp kx vx [⟨tg, iter, ifs, 0⟩] scope pos) (tDcT wi g tt tk tv (own.map (·.2))) := by
  constructor
  intro pins s σ H Q I rd
  rw [arm_eval_DictComp]
  have caught : ∀ y ∈ scope.names, y.2 = .free → ∃ c, X.env.cells.lookup y.1 = some c := fun y hy e => (blk.free y hy e).elim (fun w => I.ok.has _ (.inl w)) fun w => I.ok.has _ (.inr w)
  refine wpAny_comprehension_free rfl fold (closure_ok caught) blk.kind (fun y hy e => (blk.uniq y hy).trans (congrArg some e)) (thn (pi.run pins s σ H _ I rd) fun xv u1 hx => thn hx fun itv u2 hit => ?_)
  obtain ⟨it, fp, tn, J, A2, rfl, J2, Tn, tn0, ok2, rd2⟩ := hit
  refine wpAny_newObj_type (newEnv_comp ?_)
  generalize eD : u2.heap.objs.size = D
  have freeD : A2 D = none := J2.hok.fresh (Nat.le_of_eq eD)
  obtain ⟨W, ⟨m0, w0⟩, turn⟩ := rd2 D freeD
  generalize e3 : ({ u2 with heap := u2.heap.push { cls := .type "dict", data := .dict #[] } } : Shared) = u3
  have h3 : u3.heap = u2.heap.push { cls := .type "dict", data := .dict #[] } := by rw [← e3]
  have J3 : Inv X pins σ (upd A2 D (.dT [])) u3 := by
    subst e3
    refine J2.laid (t' := u2.toks) (fun b o e => Heap.get?_push_of_some _ e) (Nat.le_of_eq eD) ?_
    subst eD
    exact dt_empty u2.heap J2.big
  have small : ∀ b ∈ fp, b < u2.heap.objs.size := fun b hb => (Tn.obj _ _ tn0 b hb).elim fun o w => Heap.lt_size w.1
  have ok3 : ∀ b ∈ fp, FpOk X pins (upd A2 D (.dT [])) b ∧ b < u3.heap.objs.size := fun b hb => by
    have lt := small b hb
    have nb : b ≠ D := by
      subst eD
      exact Nat.ne_of_lt lt
    refine ⟨⟨(upd_ne nb).trans (ok2 b hb).1, (ok2 b hb).2⟩, ?_⟩
    rw [h3, Heap.size_push]
    exact Nat.lt_succ_of_lt lt
  have tn3 : tn 0 u3.heap := Tn.keep _ _ _ tn0 fun b _ o e => by
    rw [h3]
    exact Heap.get?_push_of_some _ e
  have J4 := block_start J3 blk nd ok3
  have pg := pg0 u3 (upd A2 D (.dT [])) u3.heap.objs.size (cellsFrom (u3.heap.objs.size + 1) scope.names (cloFrom X.env.cells scope.names [])) fp
  have pt := pt0 u3 (upd A2 D (.dT [])) u3.heap.objs.size (cellsFrom (u3.heap.objs.size + 1) scope.names (cloFrom X.env.cells scope.names [])) fp
  have pk := pk0 u3 (upd A2 D (.dT [])) u3.heap.objs.size (cellsFrom (u3.heap.objs.size + 1) scope.names (cloFrom X.env.cells scope.names [])) fp
  have pv := pv0 u3 (upd A2 D (.dT [])) u3.heap.objs.size (cellsFrom (u3.heap.objs.size + 1) scope.names (cloFrom X.env.cells scope.names [])) fp
  show codeAny _ _ (.compStart (.DictComp kx vx [⟨tg, iter, ifs, 0⟩] scope pos) 0 (.ref it) (.ref D) (compEnvC scope (cellsFrom (u3.heap.objs.size + 1) scope.names (cloFrom X.env.cells scope.names [])) u3.heap.objs.size X.env)) _ { u3 with heap := pushCells (u3.heap.push { cls := .type "dict", data := .dict #[] }) scope.names }
  generalize ee : compEnvC scope (cellsFrom (u3.heap.objs.size + 1) scope.names (cloFrom X.env.cells scope.names [])) u3.heap.objs.size X.env = ce at J4 pg pt pk pv ⊢
  have eL : ce.locals = u3.heap.objs.size := by
    subst ee
    rfl
  have unk : ∀ b ∈ fp, (upd A2 D (.dT [])) b = none := fun b hb => (ok3 b hb).1.1
  generalize eA : upd A2 D (.dT []) = A3 at J3 J4 pg pt pk pv w0 unk ok3
  generalize e4 : ({ u3 with heap := pushCells (u3.heap.push { cls := .type "dict", data := .dict #[] }) scope.names } : Shared) = u4 at J4 ⊢
  have tn4 : tn 0 u4.heap := Tn.keep _ _ _ tn3 fun b _ o e => by
    subst e4
    exact pushCells_keeps _ _ _ _ (Heap.get?_push_of_some _ e)
  have fits : ∀ {σ' : L2.St} {B : Hp} {w : Shared}, Inv (X.blk u3 A3 scope ce fp) [] σ' B w → (∀ b ∈ fp, B b = none) → ∀ b ∈ fp, FpOk (X.blk u3 A3 scope ce fp) [] B b := fun {σ' B w} J' no b hb =>
    ⟨no b hb, (J'.ok.exf b hb).1, J'.ok.exfs b hb, .inl hb, fun x c e => (J'.ok.exf b hb).2 x c e, fun p hp => (List.not_mem_nil (show p ∈ ([] : List (Addr × Obj)) ++ [] from hp)).elim⟩
  refine codeAny_compStart_dict ?_ (Tn.self X.A 0 _ _ _ tn4 ?_)
  all_goals
    refine compLoop_anyD (fun n w => ∃ i B, Inv (X.blk u3 A3 scope ce fp) [] (wipe σ (own.map (·.2))) B w ∧ tn i w.heap ∧ (∀ b ∈ fp, B b = none) ∧ W i n B) ?_ m0 ⟨0, A3, J4, tn4, unk, w0⟩
    rintro n u5 ⟨i, B5, J5, tn5, no5, w5⟩
    rcases turn i n B5 w5 with ⟨stop, out⟩ | ⟨go, Next, back, step⟩
    · refine thnF (Tn.done (X.blk u3 A3 scope ce fp) rfl rfl rfl calm i [] u5 _ B5 (fun _ _ => False) J5 (fits J5 no5) tn5 stop) fun r u6 ⟨hr, J6⟩ => ?_
      subst hr
      have J7 : Inv X pins σ B5 u6 := J3.call' (ch := fp) J6.os J6.base J6.hok J6.bare fun b hb => ⟨(ok3 b hb).1.2.2.2.1, (ok3 b hb).1.2.1, (ok3 b hb).1.2.2.2.2.1, (ok3 b hb).1.2.2.2.2.2⟩
      have freeC : B5 u3.heap.objs.size = none := by
        rw [← eL]
        exact J6.free
      obtain ⟨m, hm, _⟩ := J6.loc
      have hm : u6.heap.Ns ce.locals m := hm
      rw [eL] at hm
      obtain ⟨f0, f1, f2, f3, f4, f5⟩ := J3.fpOk (Nat.le_refl _) freeC
      exact ⟨m, hm, fun h'' sb => ⟨.ref D, B5, J7.turned (t' := u6.toks) (fun b o hb e => (sb.2 b hb).trans e) f0 f1 f3 f4 f5, rfl, out⟩⟩
    · refine thnF (Tn.item (X.blk u3 A3 scope ce fp) rfl rfl rfl calm i [] u5 _ B5 (fun _ _ => False) J5 (fits J5 no5) tn5 go) fun r u6 ⟨uv, hr, h6⟩ => ?_
      subst hr
      refine thnF h6 fun _ u7 ⟨x, B7, J7, r7, y7, tn7, no7⟩ => ?_
      refine thnF (pg.run _ u7 _ B7 x uv _ (J7.pinned (fits J7 no7) (Tn.obj _ _ tn7)) r7 (step x B7 y7)) fun _ u8 ⟨σ8, B8, J8, wiped, q8⟩ => ?_
      refine thnF (pt.run _ u8 σ8 B8 _ J8 q8) fun b u9 ⟨B9, J9, q9⟩ => ?_
      have over : ∀ {w : Shared} {B : Hp}, Inv (X.blk u3 A3 scope ce fp) ([] ++ pinsAt fp u7.heap) σ8 B w → Next B → ∃ m, m < n ∧ ∃ i B, Inv (X.blk u3 A3 scope ce fp) [] (wipe σ (own.map (·.2))) B w ∧ tn i w.heap ∧ (∀ b ∈ fp, B b = none) ∧ W i m B := fun {w B} J' nx => by
        obtain ⟨m', lt, w'⟩ := back B nx
        have same : ∀ b ∈ fp, ∀ o, u7.heap.get? b = some o → w.heap.get? b = some o ∧ B b = none := fun b hb o e => (J'.pin (b, o) (List.mem_append_right _ (List.mem_append_right _ (mem_pinsAt hb e)))).imp id And.left
        refine ⟨m', lt, i + 1, B, (J'.unpinned (pins := [])).weak (by rw [← wiped, wipe_length]) (fun j v e => ?_), Tn.keep _ _ _ tn7 fun b hb o e => (same b hb o e).1, fun b hb => ?_, w'⟩
        · rw [← wiped] at e
          exact (wipe_some e).1
        · obtain ⟨o, e, _⟩ := Tn.obj _ _ tn7 b hb
          exact (same b hb o e).2
      cases b with
      | false =>
        simp only [Bool.false_eq_true, if_false] at q9 ⊢
        exact over J9 q9
      | true =>
        simp only [if_true] at q9 ⊢
        refine thnF (pk.run _ u9 σ8 B9 _ J9 q9) fun kv u10 ⟨yk, B10, J10, r10, q10⟩ => ?_
        refine thnF (pv.run _ u10 σ8 B10 _ J10 q10) fun vv u11 ⟨yv, B11, J11, r11, kvs, ks, c, ek, hc, hD11, hz11, nx⟩ => ?_
        subst ek
        cases (show kv = Value.ref c from r10)
        exact dT_set (X := X.blk u3 A3 scope ce fp) hu J11 hD11 hc hz11 r11 fun u12 J12 => over J12 nx
end
end Ed

set_option Elab.async false
set_option linter.all false
set_option maxRecDepth 100000
namespace Ed
open PySem PySem.Spec PySem.Calls PyProof.Rows L2 LamX
open Ed.Enc (enc)
theorem each_vals : ∀ {xs : List V} {us : List Value}, Vals xs us → PySem.W.EachIs (fun u x => RelV x u) us xs
  | _, _, .nil => .nil
  | _, _, .cons r t => .cons r (each_vals t)
theorem vals_each : ∀ {xs : List V} {us : List Value}, PySem.W.EachIs (fun u x => RelV x u) us xs → Vals xs us
  | _, _, .nil => .nil
  | _, _, .cons r t => .cons r (vals_each t)
section
variable {X : Cx} {pins : List (Addr × Obj)} {σ : L2.St} {H : Hp} {s : Shared}
/-- an address of ours that no one else looks at -/
def Scr (X : Cx) (pins : List (Addr × Obj)) (b : Addr) : Prop := b ≠ X.env.locals ∧ b ∉ X.fs ∧ (b ∈ X.ex ∨ X.s_0.heap.objs.size ≤ b) ∧ (∀ x c, X.env.cells.lookup x = some c → c ≠ b) ∧ ∀ p ∈ X.pn ++ pins, p.1 ≠ b
theorem Scr.stk {b : Addr} (c : Scr X pins b) (I : Inv X pins σ H s) : b ∉ frs X.stack := fun z => (List.mem_cons.mp (I.stkSub b z)).elim c.1 c.2.1
theorem Scr.turn {b : Addr} {h' : Heap} {t : Nat} (c : Scr X pins b) (I : Inv X pins σ H s) (n : H b = none) (k : ∀ d o, d ≠ b → s.heap.get? d = some o → h'.get? d = some o) : Inv X pins σ H { s with heap := h', toks := t } :=
  I.turned k n c.1 c.2.2.1 c.2.2.2.1 c.2.2.2.2
theorem sort_keys {fa a : Addr} {its : List Value} {xs : List V} {key : V → Int} {P0 : Hp → Prop} {R : PySem.Fin → Shared → Prop} {n : Nat} {E : Value → Shared → Prop} {fo : Obj} (I : Inv X pins σ H s) (sa : Scr X pins a) (Ha : H a = none)
    (ho : s.heap.get? a = some (seqObj "list" its.toArray n)) (rv : Vals xs its) (hz : xs.length ≤ 100000) (hP : P0 H) (hu : X.A.units + 64 < cLine) (hf : s.heap.get? fa = some fo) (Hf : H fa = none) (ff : fa ∉ frs X.stack) (fne : fa ≠ a)
    (turn : ∀ x ∈ xs, ∀ u s1 H1, RelV x u → Inv X pins σ H1 s1 → P0 H1 → s1.heap.get? fa = some fo → H1 fa = none →
      wpAny (model X.prog X.w) X.A.in1.in1 (call (.ref fa) [u]) (fun r s2 => ∃ H2 t, Inv X pins σ H2 s2 ∧ Un (frs X.stack) [] H1 H2 s1.heap s2.heap ∧ P0 H2 ∧ r = .int (key x) t) (fun _ _ => False) s1)
    (fin : ∀ H2 s2, Inv X pins σ (upd H2 a (.lst (xs.mergeSort fun x y => decide (key x ≤ key y)))) s2 → P0 H2 → H2 a = none → R (.done (.ret .none)) s2) :
    wpAny (model X.prog X.w) X.A.in1.in1 (ksk_tree a (.ref fa) false) R E s := by
  have hlen := rv.length
  have hsl : 100000 ≤ sizeLine := by decide
  have ha : a < s.heap.objs.size := Heap.lt_size ho
  obtain ⟨e1, ho1⟩ : ∃ e1, (s.heap.update a (Obj.mapSeq fun _ => (#[] : Array Value))).get? a = some (seqObj "list" #[] e1) := ⟨_, get?_update_seq ho fun _ => #[]⟩
  unfold ksk_tree
  refine wpAny_bind (listItems_at ho rfl ?_)
  refine wpAny_bind (listUpdate_at ho rfl ?_ (by rw [List.size_toArray]; omega) (Nat.zero_le _))
  refine wpAny_bind (seqEpoch_at ho1 rfl ?_)
  refine wpAny_bind (wpAny_newTuple ?_ (by show its.length ≤ _; omega))
  refine wpAny_bind (wpAny_newList ?_ (Nat.zero_le _))
  refine wpAny_holding ?_
  have sz1 : ((s.heap.update a (Obj.mapSeq fun _ => (#[] : Array Value))).push (seqObj "tuple" its.toArray 0)).objs.size = s.heap.objs.size + 1 := by rw [size_push', Heap.size_update]
  have old : ∀ b o, b ≠ a → s.heap.get? b = some o → (((s.heap.update a (Obj.mapSeq fun _ => (#[] : Array Value))).push (seqObj "tuple" its.toArray 0)).push (seqObj "list" #[] 0)).get? b = some o := fun b o hb e => PySem.W.sortingHeap_old hb e
  have I0 := sa.turn (t := s.toks) I Ha old
  have na0 : (((s.heap.update a (Obj.mapSeq fun _ => (#[] : Array Value))).push (seqObj "tuple" its.toArray 0)).push (seqObj "list" #[] 0)).get? a = some (seqObj "list" #[] e1) := Heap.get?_push_of_some _ (Heap.get?_push_of_some _ ho1)
  have nk0 : (((s.heap.update a (Obj.mapSeq fun _ => (#[] : Array Value))).push (seqObj "tuple" its.toArray 0)).push (seqObj "list" #[] 0)).get? ((s.heap.update a (Obj.mapSeq fun _ => (#[] : Array Value))).push (seqObj "tuple" its.toArray 0)).objs.size = some (seqObj "list" #[] 0) := Heap.get?_push_size _ rfl
  have hf0 := old fa fo fne hf
  generalize eh : ((s.heap.update a (Obj.mapSeq fun _ => (#[] : Array Value))).push (seqObj "tuple" its.toArray 0)).push (seqObj "list" #[] 0) = h0 at I0 na0 nk0 hf0
  generalize eS : ((s.heap.update a (Obj.mapSeq fun _ => (#[] : Array Value))).push (seqObj "tuple" its.toArray 0)).objs.size = kS at nk0
  have big : s.heap.objs.size ≤ kS := by
    rw [← eS, sz1]
    exact Nat.le_succ _
  have Hk : H kS = none := I.hok.fresh big
  have sk : Scr X pins kS := (I.fpOk big Hk).2
  have hka : kS ≠ a := Nat.ne_of_gt (Nat.lt_of_lt_of_le ha big)
  have hfk : fa ≠ kS := Nat.ne_of_lt (Nat.lt_of_lt_of_le (Heap.lt_size hf) big)
  show wpAny _ _ (ksk_rest a (.ref fa) false its.toArray e1 (.ref kS)) R E { s with heap := h0 }
  unfold ksk_rest
  refine wpAny_bind (wpAny_rule ?_)
  rw [List.forIn_toArray]
  refine wpAny_bind (ksk_fold (fun i s' => ∃ H' kA e, Inv X pins σ H' s' ∧ P0 H' ∧ s'.heap.get? kS = some (seqObj "list" kA e) ∧ s'.heap.get? a = some (seqObj "list" #[] e1) ∧ H' kS = none ∧ H' a = none ∧ s'.heap.get? fa = some fo ∧ H' fa = none ∧
    PySem.W.EachIs (fun v k => ∃ t, v = Value.int k t) kA.toList ((xs.take i).map key)) its 0 _ ⟨H, #[], 0, I0, hP, nk0, na0, Hk, Ha, hf0, Hf, by rw [List.take_zero]; exact .nil⟩ ?step ?done)
  case step =>
    rintro j u s' hj ⟨H', kA, e, J, P', nk, na, Hk', Ha', hf', Hf', ek⟩
    simp only [Nat.zero_add] at ek ⊢
    have hjl : j < xs.length := by
      rw [hlen]
      exact (List.getElem?_eq_some_iff.mp hj).1
    have hx : xs[j]? = some xs[j] := List.getElem?_eq_getElem hjl
    obtain ⟨u', hu', ru⟩ := rv.get hx
    rw [hj] at hu'
    cases hu'
    have kl := ek.length
    rw [Array.length_toList, List.length_map, List.length_take] at kl
    refine wpAny_bind (wpAny_attempt (wpAny_mono (turn _ (List.getElem_mem hjl) u s' H' ru J P' hf' Hf') (fun r s2 h2 => ?_) fun _ _ z => z.elim))
    obtain ⟨H2, t, J2, U2, P2, rfl⟩ := h2
    have nk2 := U2.keep kS _ nk Hk' (sk.stk J) List.not_mem_nil
    have na2 := U2.keep a _ na Ha' (sa.stk J) List.not_mem_nil
    have hf2 := U2.keep fa _ hf' Hf' ff List.not_mem_nil
    have Hk2 := U2.free kS _ nk Hk' List.not_mem_nil
    have Ha2 := U2.free a _ na Ha' List.not_mem_nil
    have Hf2 := U2.free fa _ hf' Hf' List.not_mem_nil
    have sb := Heap.SameBut.update s2.heap kS (Obj.mapSeq (·.push (Value.int (key xs[j]) t)))
    obtain ⟨c2, hc2⟩ : ∃ c2, (s2.heap.update kS (Obj.mapSeq (·.push (Value.int (key xs[j]) t)))).get? kS = some (seqObj "list" (kA.push (Value.int (key xs[j]) t)) c2) := ⟨_, get?_update_seq nk2 (·.push (Value.int (key xs[j]) t))⟩
    try dsimp only
    refine wpAny_bind (listUpdate_at nk2 rfl ?_ (by omega) (by rw [Array.size_push]; omega))
    have J3 := sk.turn (t := s2.toks) J2 Hk2 (fun d o hd q => (sb.2 d hd).trans q)
    refine wpAny_pure ⟨rfl, H2, kA.push (Value.int (key xs[j]) t), c2, J3, P2, hc2, (sb.2 a hka.symm).trans na2, Hk2, Ha2, (sb.2 fa hfk).trans hf2, Hf2, ?_⟩
    have ts : xs.take (j + 1) = xs.take j ++ [xs[j]] := by rw [List.take_add_one, hx] <;> rfl
    rw [Array.toList_push, ts, List.map_append]
    exact PySem.W.each_snoc (R := fun (v : Value) (k : Int) => ∃ t, v = Value.int k t) ⟨t, rfl⟩ ek
  case done =>
    rintro s' ⟨H', kA, e, J, P', nk, na, Hk', Ha', hf', Hf', ek⟩
    rw [Nat.zero_add, ← hlen, List.take_length] at ek
    have kl := ek.length
    rw [Array.length_toList, List.length_map] at kl
    have ekd : PySem.W.EachIs (fun v k => ∃ as, Reads s'.heap v k as) kA.toList (xs.map fun x => PyData.int (key x)) := by
      have w : ∀ {vs : List Value} {ks : List V}, PySem.W.EachIs (fun v k => ∃ t, v = Value.int k t) vs (ks.map key) → PySem.W.EachIs (fun v k => ∃ as, Reads s'.heap v k as) vs (ks.map fun x => PyData.int (key x)) := by
        intro vs ks
        induction ks generalizing vs with
        | nil =>
          intro q
          cases q
          exact .nil
        | cons k ks ih =>
          intro q
          cases q with
          | cons r t =>
            obtain ⟨tk, rfl⟩ := r
            exact .cons ⟨_, Reads.int _ tk⟩ (ih t)
      exact w ek
    have hal : PySem.W.AllAlike (xs.map fun x => PyData.int (key x)) := PySem.W.AllAlike.of fun x y => by simp only [PySem.W.alike]
    have hsk : PySem.W.Sortable (xs.map fun x => PyData.int (key x)) := PySem.W.Sortable.others fun x => ⟨fun z => (by cases z), fun ys z => (by cases z)⟩
    have hd : ∀ d, d ∈ (xs.map fun x => PyData.int (key x)) → X.A.in1.in1.units + d.depth < cLine := fun d hd => by
      obtain ⟨x, _, rfl⟩ := List.mem_map.mp hd
      show X.A.units + 1 + 1 + (PyData.int (key x)).depth < cLine
      have e0 : (PyData.int (key x)).depth = 0 := by simp [PyData.depth]
      omega
    try dsimp only
    refine wpAny_bind (listItems_at nk rfl ?_)
    refine PySem.W.keyH_end (κ := PySem.W.dataKind s'.heap (xs.map fun x => PyData.int (key x))) (h₁ := PySem.W.hideAll s'.heap [kS]) (fun b o _ q => PySem.W.of_hideAll _ q) (PySem.W.hideAll_none _ (List.mem_singleton.mpr rfl)) nk na hka (PySem.W.SortsAt.data ekd hal hsk hd) (by omega) (by omega) fun h3 tk3 c kp n3 => ?_
    have ko : PySem.W.KeyedOut false (xs.map fun x => PyData.int (key x)) its (PySem.W.sortVals (PySem.W.dataKind s'.heap (xs.map fun x => PyData.int (key x))) false kA.toList its) := ⟨s'.heap, kA.toList, hal, rfl, ekd⟩
    have eo := PySem.W.keyedOut_each (fun x => PyData.int (key x)) ko (each_vals rv)
    rw [PySem.W.dataLe_int] at eo
    have ro := vals_each eo
    have kp2 : ∀ b o, b ≠ a → b ≠ kS → s'.heap.get? b = some o → h3.get? b = some o := fun b o h1 h2 q => kp b o h1 (PySem.W.hideAll_get _ q fun z => h2 (List.mem_singleton.mp z))
    have hid2 : ∀ b u, H' b = some u → b ≠ a ∧ b ≠ kS := fun b u q => ⟨ne_of_none q Ha', ne_of_none q Hk'⟩
    have there3 : ∀ b o, b ≠ a → s'.heap.get? b = some o → ∃ o', h3.get? b = some o' ∨ b = kS := fun b o h1 q => by
      by_cases h2 : b = kS
      · exact ⟨o, .inr h2⟩
      · exact ⟨o, .inl (kp2 b o h1 h2 q)⟩
    refine fin H' _ (J.step (g' := s'.gens) (d' := s'.drawn) (t' := tk3) (ch := [a, kS]) (fun b hb => ?_) (fun b o _ _ hc q _ => ?_) (fun b o _ _ hc q _ => ?_) (fun b o hc q w => ?_) (fun b o hc q => ?_) (fun b ys q => ?_) (fun b o u q => ?_) (fun b ps q => ⟨#[], ?_⟩) (fun m hm => ?_) (fun b u q => ?_) J.bare) P' Ha'
    · rcases List.mem_cons.mp hb with z | z
      · rw [z]
        exact ⟨sa.2.2.1, sa.1, sa.2.2.2⟩
      · rw [List.mem_singleton.mp z]
        exact ⟨sk.2.2.1, sk.1, sk.2.2.2⟩
    · exact kp2 b o (fun z => hc (by simp [z])) (fun z => hc (by simp [z])) q
    · exact ⟨o.slots, kp2 b o (fun z => hc (by simp [z])) (fun z => hc (by simp [z])) q⟩
    · rw [upd_ne fun z => hc (by simp [z])]
      exact w
    · exact ⟨o, kp2 b o (fun z => hc (by simp [z])) (fun z => hc (by simp [z])) q⟩
    · rw [upd_ne (hid2 b _ q).1]
      exact q
    · rw [upd_ne (hid2 b _ q).1]
      exact q
    · rw [upd_ne (hid2 b _ q).1, q]
      simp
    · obtain ⟨o, es, ep, g1, g2⟩ := hm
      exact ⟨o, es, ep, kp2 _ o sa.1.symm sk.1.symm g1, g2⟩
    · by_cases hb : b = a
      · subst hb
        rw [upd_same] at q
        cases q
        refine ⟨?_, _, c, ro, n3⟩
        rw [List.length_mergeSort]
        omega
      · rw [upd_ne hb] at q
        refine (J.hok b u q).stay (fun d v hd w => ?_) (fun d w => ?_) fun d ys w => ?_
        · rcases hd with z | z
          · rw [z] at w ⊢
            exact kp2 b v hb (hid2 b u q).2 w
          · exact kp2 d v (hid2 d _ z).1 (hid2 d _ z).2 w
        · exact (upd_ne (hid2 d _ w).1).trans w
        · exact (upd_ne (hid2 d _ w).1).trans w
end
end Ed

set_option Elab.async false
set_option linter.all false
set_option maxRecDepth 100000
namespace Ed
open PySem PySem.Spec PySem.Calls PyProof.Rows L2 LamX NdefX
open Ed.Enc (enc)
/-- from one running heap to a later one -/
structure Xn (T : Tbs) (H H2 : Hp) : Prop where
  keep : ExtN H H2
  tb : Tabs T H2
  dom : ∀ a, H2 a = none → H a = none
  tbs : ∀ a ps, H a = some (.tbl ps) → ∃ ps2, H2 a = some (.tbl ps2)
theorem Xn.refl {T : Tbs} {H : Hp} (t : Tabs T H) : Xn T H H := ⟨ExtN.refl H, t, fun _ h => h, fun _ ps h => ⟨ps, h⟩⟩
theorem Xn.trans {T : Tbs} {A B C : Hp} (m : Xn T A B) (n : Xn T B C) : Xn T A C := ⟨m.keep.trans n.keep, n.tb, fun a h => m.dom a (n.dom a h), fun a ps h => (m.tbs a ps h).elim fun ps2 h2 => n.tbs a ps2 h2⟩
theorem Nx.xn {T : Tbs} {G H G2 H2 : Hp} (n : Nx T G H G2 H2) : Xn T H H2 := ⟨n.keep, n.kn.tb, n.dom, n.tbs⟩
theorem Nx.of_xn {T : Tbs} {G H H2 : Hp} (k : Kn T G H) (x : Xn T H H2) : Nx T G H G H2 := ⟨Ex.refl G, ⟨fun a o e => x.keep a o (k.le a o e) fun ps z => k.nt a ps (by rw [e, z]), k.nt, x.tb⟩, x.keep, x.dom, fun _ h => .inl h, x.tbs⟩
section
variable {X : Cx} {pins : List (Addr × Obj)} {σ : L2.St} {H : Hp} {s : Shared}
theorem lam_mk {T : Tbs} {c P : Addr} {params : Arguments} {body : Expr} {scope : Scope} {pos : Pos} {E : Value → Shared → Prop} {Q : Value → Shared → Prop} (I : Inv X pins σ H s) (TB : TabB X.base X.mg c P) (hcode : X.env.code = .ref c)
    (inT : (P, X.env.qual ++ "<lambda>") ∈ T) (one : ∀ p ∈ T, p.1 = P → p.2 = X.env.qual ++ "<lambda>") (tabs : Tabs T H) (nodef : defaultsOf params X.env = ([], [])) (caught : ∀ y ∈ scope.names, y.2 = .free → ∃ c, X.env.cells.lookup y.1 = some c)
    (fin : ∀ (f c' : Addr) (pm ctv : Value) (H1 : Hp) (s' : Shared), Inv X pins σ H1 s' → Xn T H H1 → s'.heap.get? f = some (PySem.W.kla_obj "<lambda>" (X.env.qual ++ "<lambda>") params body scope (cloFrom X.env.cells scope.names []) pm c' ctv) →
      H1 f = none → f ∉ frs X.stack → f < s'.heap.objs.size → H1 c' = some (CodeO c' (X.env.qual ++ "<lambda>")) → Q (.ref f) s') :
    wpAny (model X.prog X.w) X.A (eval (.Lambda params body scope pos) X.env) Q E s := by
  obtain ⟨ps, atP, ord, known⟩ := tabs _ inT
  refine PySem.W.kla_eval nodef ?_
  have hb : s.heap.BuiltinsAt X.mg P := TB.bm.keeps I.bk
  have oP : s.heap.get? P = some { cls := .none, data := .fields ps } := I.hok P _ atP
  have nofr : ∀ f, s.heap.objs.size ≤ f → f ∉ frs X.stack := fun f hf z => (List.mem_cons.mp (I.stkSub _ z)).elim (fun e => Nat.lt_irrefl _ (Nat.lt_of_lt_of_le I.lt (e ▸ hf))) (I.nofs hf)
  cases hit : codeAmong pos ps.toList with
  | some cv =>
    obtain ⟨c', ec, hco⟩ := known pos cv hit
    subst ec
    refine PySem.W.kla_makeFunctionHit (closure_ok caught) I.ok.glob (I.mod.glob.keeps I.bk) hcode (TB.code.keeps I.bk) oP ord hit hb fun ctv h' tk up grown => ?_
    have I1 : Inv X pins σ H { s with heap := h'.push (PySem.W.kla_obj "<lambda>" (X.env.qual ++ "<lambda>") params body scope (cloFrom X.env.cells scope.names []) ((X.mg "__name__").getD .none) c' ctv), toks := tk } := I.kept fun b o e => Heap.get?_push_of_some _ (up b o e)
    exact fin _ c' _ ctv H _ I1 (Xn.refl tabs) (Heap.get?_push_size _ rfl) (I.hok.fresh grown) (nofr _ grown) (by
      show h'.objs.size < (h'.push _).objs.size
      rw [Heap.size_push]
      exact Nat.lt_succ_self _) hco
  | none =>
    refine PySem.W.kla_makeFunction (closure_ok caught) I.ok.glob (I.mod.glob.keeps I.bk) hcode (TB.code.keeps I.bk) oP ord hit TB.gP hb fun c' ctv h' tk up ge lt rec tab => ?_
    obtain ⟨c2, oc, fs, t, e2, hoc, hd, hv⟩ := rec
    cases e2
    have grown : s.heap.objs.size ≤ h'.objs.size := Nat.le_trans ge (Nat.le_of_lt lt)
    have nC : H c' = none := I.hok.fresh ge
    have I1 := inv_table (t' := tk) (more := #[rawInt pos.line, rawInt pos.col, .ref c']) (h' := h'.push (PySem.W.kla_obj "<lambda>" (X.env.qual ++ "<lambda>") params body scope (cloFrom X.env.cells scope.names []) ((X.mg "__name__").getD .none) c' ctv)) I atP
      (fun b o hb e => Heap.get?_push_of_some _ (up b o hb e)) (Heap.get?_push_of_some _ tab) ge ⟨oc, fs, t, Heap.get?_push_of_some _ hoc, hd, hv⟩
    have nPc : P ≠ c' := ne_of_none atP nC
    generalize eA : upd (upd H P (.tbl (ps ++ #[rawInt pos.line, rawInt pos.col, .ref c']))) c' (CodeO c' (X.env.qual ++ "<lambda>")) = A1 at I1
    have atC : A1 c' = some (CodeO c' (X.env.qual ++ "<lambda>")) := by
      subst eA
      exact upd_same
    have atP1 : A1 P = some (.tbl (ps ++ #[rawInt pos.line, rawInt pos.col, .ref c'])) := by
      subst eA
      exact (upd_ne nPc).trans upd_same
    have off : ∀ b, b ≠ P → b ≠ c' → A1 b = H b := fun b h1 h2 => by
      subst eA
      exact (upd_ne h2).trans (upd_ne h1)
    have kp : ExtN H A1 := fun b o e nt => (off b (fun z => nt ps (Option.some.inj (e.symm.trans (z ▸ atP)))) (ne_of_none e nC)).trans e
    have eL : (ps ++ #[rawInt pos.line, rawInt pos.col, .ref c']).toList = ps.toList ++ [rawInt pos.line, rawInt pos.col, .ref c'] := by simp
    refine fin _ c' _ ctv A1 _ I1 ⟨kp, fun p hp => ?_, fun b e => ?_, fun b qs e => ?_⟩ (Heap.get?_push_size _ rfl) ?_ (nofr _ grown) ?_ atC
    · by_cases hb : p.1 = P
      · rw [one p hp hb, hb]
        refine ⟨_, atP1, by rw [eL]; exact PySem.TriplesOk_snoc _ _ _ _ ord, fun p' cv hcv => ?_⟩
        rw [eL] at hcv
        rcases among_app _ ord hcv with z | z
        · obtain ⟨c0, e1, e2⟩ := known p' cv z
          exact ⟨c0, e1, kp _ _ e2 codeO_ne⟩
        · exact ⟨c', z, atC⟩
      · obtain ⟨ps', a1, a2, a3⟩ := tabs p hp
        refine ⟨ps', (off _ hb (ne_of_none a1 nC)).trans a1, a2, fun p' cv hcv => ?_⟩
        obtain ⟨c0, e1, e2⟩ := a3 p' cv hcv
        exact ⟨c0, e1, kp _ _ e2 codeO_ne⟩
    · by_cases h1 : b = P
      · rw [h1, atP1] at e
        cases e
      · by_cases h2 : b = c'
        · rw [h2, atC] at e
          cases e
        · rw [← off b h1 h2]
          exact e
    · by_cases h1 : b = P
      · rw [h1]
        exact ⟨_, atP1⟩
      · by_cases h2 : b = c'
        · rw [h2, nC] at e
          cases e
        · exact ⟨qs, (off b h1 h2).trans e⟩
    · rw [off _ (Nat.ne_of_gt (Nat.lt_of_lt_of_le (Heap.lt_size oP) grown)) (Nat.ne_of_gt lt)]
      exact I.hok.fresh grown
    · show h'.objs.size < (h'.push _).objs.size
      rw [Heap.size_push]
      exact Nat.lt_succ_self _
/-- the lambda as one of the made functions (its body is not a block: the list is empty) -/
abbrev lamNF (q : Str) (params : Arguments) (scope : Scope) (cl : List (Str × Addr)) (c : Addr) : NF := ⟨"<lambda>", q, params, [], scope, cl, c⟩
/-- a call of it -/
theorem lam_run {P : Program} {w : World} {K : PySem.W.Frag} {mg : Str → Option Value} {base : Heap} {N ps fr : List Str} {k : Nat} {A : Around} {outer : List Env} {s : Shared} {H : Hp} {f c' : Addr} {q : Str} {params : Arguments} {body : Expr} {scope : Scope} {cl : List (Str × Addr)} {pm ctv : Value}
    {us : List Value} {vs : List V} {ws : List (Option V)} {Q : VK} {tb : TE} (S : NScope N ps fr scope) (hr : Room (k + 1) A) (e0 : Env0 P w K mg base A outer s H) (hf : s.heap.get? f = some (PySem.W.kla_obj "<lambda>" q params body scope cl pm c' ctv))
    (hco : H c' = some (CodeO c' q)) (hb : bindArgs (PySem.W.kla_fn "<lambda>" q params body scope cl pm (.ref c') ctv) ⟨us, []⟩ = pure (ps.zip us)) (C : CellsAt cl fr ws s.heap H) (r : Vals vs us) (hl : vs.length = ps.length)
    (pb : Room k (A.deeper (envF (lamNF q params scope cl c') f s.heap.objs.size)) → PE (ncx L2.CX0 P w K mg base N (lamNF q params scope cl c') f A outer s H L2.E0) body tb) (h : tb (startF N vs ws) H Q) :
    codeAny (model P w) A (.call (.ref f) ⟨us, []⟩) (CR L2.CX0 outer P w H s Q L2.E0) s := by
  have lim : s.heap.NoLimit := e0.mod.nolimit.keeps fun b o e => (e0.bs b o e).1
  refine PySem.W.kla_callFunE hr.depth hf rfl S.co S.gen rfl (codeO_at e0.hok hco) ?_
  rw [hb]
  refine wpAny_pure (wpAny_newFunctionEnv S.nocell (fun ⟨n, _⟩ hy => S.par n (List.of_mem_zip hy).1) (fun h₁ hns hsb => ⟨lim.fresh _ hsb, ?_⟩) S.kind)
  show codeAny _ _ (.expr body (envF (lamNF q params scope cl c') f s.heap.objs.size)) _ _
  have kp : ∀ b o, s.heap.get? b = some o → h₁.get? b = some o := fun b o e => hsb.extBut b o (Nat.ne_of_lt (Heap.lt_size e)) (Heap.get?_push_of_some _ e)
  have J : Inv (ncx L2.CX0 P w K mg base N (lamNF q params scope cl c') f A outer s H L2.E0) [] (startF N vs ws) H { s with heap := h₁, toks := s.toks + (ps.zip us).length } := inv_startN (F := lamNF q params scope cl c') S hr.hd e0 hl r C hns kp
  refine PySem.W.kla_codeExpr (wpAny_mono ((pb (hr.deeper _)).run [] _ _ H Q J h) (fun v s' hq => ?_) fun e s' hq => hq)
  obtain ⟨w', H', J', rv, q'⟩ := hq
  exact ⟨w', H', J'.os, J'.bare, J'.base, J'.hok, rv, q'⟩
end
section
variable {X : Cx}
/-- sorted(e, key=lambda ..): each key is told from the captured slots js -/
def tSortLam (K : PySem.W.Frag) (T : Tbs) (N : List Str) (js : List Nat) (tb te : TE) : TE := fun σ H Q => te σ H fun x H1 => Tabs T H1 ∧ ∃ (a : Addr) (xs : List V) (key : V → Int), x = .ref a ∧ SqL K H1 a xs ∧ xs.length ≤ 100000 ∧
  (∀ v ∈ xs, ∀ H2, Xn T H1 H2 → tb (startF N [v] (js.map (slotAt σ))) H2 fun r H3 => r = .int (key v) ∧ Xn T H2 H3) ∧
  ∀ H2 p, Xn T H1 H2 → H2 p = none → Q (.ref p) (upd H2 p (.lst (xs.mergeSort fun x y => decide (key x ≤ key y))))
theorem pe_sortLam {T : Tbs} {c P : Addr} {k : Nat} {N fr : List Str} {par : Str} {js : List Nat} {params : Arguments} {body e : Expr} {scope : Scope} {te tb : TE} {p lpos kpos pos : Pos} (hg : Gl X "sorted") (hm : X.mg "sorted" = none) (ha : PA X [e] (tCons te tNil)) (calm : X.calm = true) (TB : TabB X.base X.mg c P) (hcode : X.env.code = .ref c)
    (inT : (P, X.env.qual ++ "<lambda>") ∈ T) (one : ∀ p ∈ T, p.1 = P → p.2 = X.env.qual ++ "<lambda>") (hr : Room (k + 3) X.A) (S : NScope N [par] fr scope) (nodef : defaultsOf params X.env = ([], []))
    (hfree : ∀ y ∈ scope.names, y.2 = .free → X.env.scope.names.lookup y.1 = some .cell ∨ X.env.scope.names.lookup y.1 = some .free) (hfr : ∀ y ∈ fr, (y, NameKind.free) ∈ scope.names) (hjs : js.map (fun j => X.N[j]?) = fr.map some)
    (hbind : ∀ (q : Str) (cl : List (Str × Addr)) (pm cv ctv u : Value), bindArgs (PySem.W.kla_fn "<lambda>" q params body scope cl pm cv ctv) ⟨[u], []⟩ = pure [(par, u)])
    (hbody : ∀ (A : Around) (outer : List Env) (s : Shared) (H : Hp) (f c' : Addr), Room k (A.deeper (envF (lamNF (X.env.qual ++ "<lambda>") params scope (cloFrom X.env.cells scope.names []) c') f s.heap.objs.size)) →
      PE (ncx L2.CX0 X.prog X.w X.K X.mg X.base N (lamNF (X.env.qual ++ "<lambda>") params scope (cloFrom X.env.cells scope.names []) c') f A outer s H L2.E0) body tb)
    (hst : backTo pos (starEach [e] X.env) = (false, eval e X.env) :: backTo pos (starEach [] X.env) := by rfl) (hpl : (backTo pos (starEach [e] X.env)).any (·.1) = false := by rfl)
    (hall : (backToKw pos (keywordEach [⟨some "key", .Lambda params body scope lpos, kpos⟩] X.env)).all (·.1.isSome) = true := by rfl) (hnone : (backToKw pos (keywordEach [⟨some "key", .Lambda params body scope lpos, kpos⟩] X.env)).any (·.1.isNone) = false := by rfl) :
    PE X (.Call (.Name "sorted" p) [e] [⟨some "key", .Lambda params body scope lpos, kpos⟩] pos) (tSortLam X.K T N js tb te) := by
  constructor
  intro pins s σ H Q I h
  have caught : ∀ y ∈ scope.names, y.2 = .free → ∃ c, X.env.cells.lookup y.1 = some c := fun y hy e => (hfree y hy e).elim (fun z => I.ok.has _ (.inl z)) fun z => I.ok.has _ (.inr z)
  refine wpAny_Call_Name_kw (ld_blt I hg hm PyProof.Rows.boot_sorted ?_ (by decide) (by decide))
  refine PyProof.Rows.callWith_kw (thn (ha.run pos pins s σ H (fun vs H1 => match vs with
    | [x] => Tabs T H1 ∧ ∃ (a : Addr) (xs : List V) (key : V → Int), x = .ref a ∧ SqL X.K H1 a xs ∧ xs.length ≤ 100000 ∧
      (∀ v ∈ xs, ∀ H2, Xn T H1 H2 → tb (startF N [v] (js.map (slotAt σ))) H2 fun r H3 => r = .int (key v) ∧ Xn T H2 H3) ∧
      ∀ H2 p, Xn T H1 H2 → H2 p = none → Q (.ref p) (upd H2 p (.lst (xs.mergeSort fun x y => decide (key x ≤ key y))))
    | _ => False) I h) fun us s1 ⟨vs, H1, I1, r1, q1⟩ => ?_) hst hpl hall hnone
  match vs, r1, q1 with
  | [], _, q1 => exact q1.elim
  | _ :: _ :: _, _, q1 => exact q1.elim
  | [x], r1, q1 =>
    obtain ⟨tabs, a, xs, key, rfl, hs, hz, hk, hq⟩ := q1
    obtain rfl := Vals.ref1 r1
    show wpAny _ _ (evalAll ((do let v ← eval (.Lambda params body scope lpos) X.env; standAt pos; pure v) :: [])) _ _ s1
    refine wpAny_evalAll_cons (wpAny_bind (lam_mk I1 TB hcode inT one tabs nodef caught fun f c' pm ctv H2 s2 I2 x2 hf Hf nf lt hco => wpAny_bind (wpAny_standAt (wpAny_pure (wpAny_evalAll_nil ?_)))))
    have hs2 : SqL X.K H2 a xs := by
      rcases hs with (z | ⟨o, z⟩) | z
      · exact .inl (.inl (x2.keep _ _ z fun ps w => by cases w))
      · exact .inl (.inr ⟨o, x2.keep _ _ z fun ps w => by cases w⟩)
      · exact .inr z
    obtain ⟨its, rv, isl, hzl⟩ := I2.list hs2
    have hln := rv.length
    have big : s2.heap.objs.size ≤ s2.heap.objs.size + 1 := Nat.le_succ _
    have Hn : H2 (s2.heap.objs.size + 1) = none := I2.hok.fresh big
    refine PySem.W.sorted_of_sort (kw := [(Str.ofString "key", .ref f)]) isl.isList (by rw [← hln]; exact hzl) (ksk_s1 _ _) (fun _ => ksk_l1 _ _) fun E' => ?_
    rw [ksk_t1]
    have I3 : Inv X pins σ H2 { s2 with heap := PySem.W.copyHeap s2.heap its } := I2.kept fun b o e => PySem.W.copyHeap_old e
    refine sort_keys (key := key) (P0 := fun H' => Xn T H2 H' ∧ H' c' = some (CodeO c' (X.env.qual ++ "<lambda>"))) I3 (I2.fpOk big Hn).2 Hn (PySem.W.copyHeap_at _ _) rv hz ⟨Xn.refl x2.tb, hco⟩ (by have := hr.un; omega) (PySem.W.copyHeap_old hf) Hf nf (Nat.ne_of_lt (Nat.lt_succ_of_lt lt))
      (fun v hv u t1 H3 ru J1 ⟨x3, hc3⟩ hf3 Hf3 => ?_) fun H4 t2 J2 ⟨x4, _⟩ Ha4 => ⟨rfl, .ref _, _, J2, rfl, hq H4 _ (x2.trans x4) Ha4⟩
    refine wpAny_call (codeAny_mono (lam_run (ws := js.map (slotAt σ)) (tb := tb) S hr.in1.in1 J1.env0.in1.in1 hf3 hc3 (hbind _ _ _ _ _ _) (cells_of J1 (Caps.made J1.ok hfree hfr hjs)) (.cons ru .nil) rfl (hbody _ _ _ _ _ _) (hk v hv H3 (x2.trans x3))) fun r t2 hr2 => ?_)
    cases r with
    | error e => exact (show False from hr2).elim
    | ok fl =>
      cases fl with
      | next => exact False.elim hr2
      | brk => exact False.elim hr2
      | cont => exact False.elim hr2
      | ret u2 =>
        obtain ⟨w, H4, os, bare, un4, hok4, rw4, ew, x4⟩ := hr2
        subst ew
        obtain ⟨t, rfl⟩ := rw4
        exact ⟨H4, t, J1.call' os un4 hok4 bare (fun b hb => (List.not_mem_nil hb).elim), un4, ⟨x3.trans x4, x4.keep _ _ hc3 codeO_ne⟩, rfl⟩
end
end Ed

set_option Elab.async false
set_option linter.all false
set_option maxRecDepth 100000
namespace Ed
open PySem PySem.Spec PySem.Calls PyProof.Rows L2 LamX NdefX
open Ed.Enc (enc)
section
variable {T : Tbs} {K : PySem.W.Frag} {σ : L2.St} {G G2 H : Hp} {ta tb te tl : TE} {t u : TT} {R R' R'' : Rp} {α β γ : Type} [Enc α] [Enc β] [Enc γ] {x y : α} {D : Ends} {tz tu tw : TS} {g : TG}
/-- a new dict whose keys are pairs -/
def EvM (T : Tbs) (te : TE) (σ : L2.St) (G : Hp) (ps : List (Int × Int)) : Prop := ∀ H, Kn T G H → ∀ Q : VK,
  (∀ p kvs G2 H2, Nx T G H G2 H2 → H p = none → G2 p = none → H2 p = some (.dT kvs) → kvs.map (·.1) = ps.map keyP → Q (.ref p) H2) → te σ H Q
theorem EvM.evT {ps : List (Int × Int)} (h : EvM T te σ G ps) : EvR T te σ G (IsT ps) := fun H k Q q => h H k _ fun p kvs G2 H2 n h0 hG hp hk =>
  q (.ref p) _ H2 (n.freeze h0 hG hp nt_dT) ⟨p, kvs, rfl, upd_same, hk⟩
def PromM (T : Tbs) (Rs : List Rp) (ps : List (Int × Int)) : Sp := fun vs H Q _ => ∃ G, Kn T G H ∧ AllR G vs Rs ∧
  ∀ p kvs G2 H2, Nx T G H G2 H2 → H p = none → G2 p = none → H2 p = some (.dT kvs) → kvs.map (·.1) = ps.map keyP → Q (.ref p) H2
theorem em_call {ta : TA} {sp : Sp} {E : XK} {Rs : List Rp} {ps : List (Int × Int)} (h : EvA T ta σ G Rs) (hs : ∀ vs H Q E, PromM T Rs ps vs H Q E → sp vs H Q E) : EvM T (tCall sp [] E ta) σ G ps := fun H k Q q =>
  h H k _ fun vs G1 H1 n1 r1 => by
    rw [List.append_nil]
    exact hs vs H1 Q E ⟨G1, n1.kn, r1, fun p ws G2 H2 n2 h0 hG hp r2 => q p ws G2 H2 (n1.trans n2) (n1.dom p h0) hG hp r2⟩
theorem q_asgM {i : Nat} {ps : List (Int × Int)} (k : Kn T G H) (h : EvM T te σ G ps) (c : ∀ p kvs G2 H2, Nx T G H G2 H2 → H p = none → G2 p = none → H2 p = some (.dT kvs) → kvs.map (·.1) = ps.map keyP → tz D (σ.set i (some (.ref p))) H2) :
    tSeq (tAsg te (gName i)) tz D σ H := h H k _ fun p kvs G2 H2 n h0 hG hp r => c p kvs G2 H2 n h0 hG hp r
theorem s_retM {ps : List (Int × Int)} (k : Kn T G H) (h : EvM T te σ G ps) (c : ∀ p kvs G2 H2, Nx T G H G2 H2 → H p = none → G2 p = none → H2 p = some (.dT kvs) → kvs.map (·.1) = ps.map keyP → D.rt (.ref p) H2) :
    tRet te D σ H := h H k _ fun p kvs G2 H2 n h0 hG hp r => c p kvs G2 H2 n h0 hG hp r
theorem putAll_snoc {ps t : List (Int × Int)} {p : Int × Int} : Sw.putAll t (ps ++ [p]) = Sw.putP (Sw.putAll t ps) p := by
  unfold Sw.putAll
  rw [List.foldl_append]
  rfl
theorem putAll_len : ∀ {ps t : List (Int × Int)}, (Sw.putAll t ps).length ≤ t.length + ps.length
  | [], t => Nat.le_refl _
  | p :: ps, t => by
    show (Sw.putAll (Sw.putP t p) ps).length ≤ _
    have h := putAll_len (ps := ps) (t := Sw.putP t p)
    have h2 : (Sw.putP t p).length ≤ t.length + 1 := by
      unfold Sw.putP
      split
      · omega
      · rw [List.length_append]
        exact Nat.le_refl _
    rw [List.length_cons]
    omega
/-- {p: w for p in ps} -/
theorem em_dc {wi : TI} {j : Nat} {vs : List Nat} {w : V} {ps : List (Int × Int)} (h : Src T wi σ G ps) (hz : ps.length ≤ 50000) (hj : j < σ.length) (hw : ∀ x, wipe ((wipe σ vs).set j (some x)) vs = wipe σ vs) : EvM T (tDcT wi (gName j) tYes (tVar j) (tC w) vs) σ G (Sw.putAll [] ps) := fun H k Q q => h H k _ fun J G1 H1 n1 wk Dl hD => by
  have h0 := n1.dom Dl hD
  refine ⟨fun i m H' => m = ps.length - i ∧ i ≤ ps.length ∧ ∃ G' kvs, Nx T G H G' H' ∧ Ex G1 G' ∧ G' Dl = none ∧ H' Dl = some (.dT kvs) ∧ kvs.map (·.1) = (Sw.putAll [] (ps.take i)).map keyP, ⟨ps.length, by simp, Nat.zero_le _, G1, [], n1.trans (Nx.fresh n1.kn hD), Ex.refl G1, n1.kn.none hD, upd_same, rfl⟩, ?_⟩
  rintro i m H' ⟨rfl, hi, G', kvs, n, e1, hG, hp, hr⟩
  rcases Nat.lt_or_ge i ps.length with hlt | hge
  rotate_left
  · have ei : i = ps.length := by omega
    subst ei
    rw [List.take_length] at hr
    exact .inl ⟨wk.stops H' ⟨G', e1, n.kn.le⟩, q Dl kvs G' H' n h0 hG hp hr⟩
  refine .inr ⟨wk.goes i H' hlt ⟨G', e1, n.kn.le⟩, fun H' => ∃ G' kvs, Nx T G H G' H' ∧ Ex G1 G' ∧ G' Dl = none ∧ H' Dl = some (.dT kvs) ∧ kvs.map (·.1) = (Sw.putAll [] (ps.take (i + 1))).map keyP, fun H' p => ⟨ps.length - (i + 1), by omega, rfl, hlt, p⟩, fun v H'' hy => ?_⟩
  obtain ⟨x, hx, hy⟩ := wk.yields i H' v H'' hlt ⟨G', e1, n.kn.le⟩ hy
  obtain ⟨G2, n2, r2⟩ := hy G' e1 n.kn
  obtain ⟨hG2, hp2⟩ := stays n2 hG hp nt_dT nu_dT
  obtain ⟨c, rfl, hc⟩ := pair_at (a := x.1) (b := x.2) r2
  have hl := congrArg List.length hr
  rw [List.length_map, List.length_map] at hl
  have hl2 := putAll_len (ps := ps.take i) (t := [])
  rw [List.length_take, List.length_nil] at hl2
  refine ⟨hw _, ?_⟩
  dsimp only [tYes]
  rw [if_pos rfl]
  refine ⟨.ref c, ?_, kvs, keyP x, c, rfl, n2.kn.le _ _ hc, hp2, Nat.lt_of_lt_of_le (show kvs.length < 100000 by omega) (by decide), G2, _, (n.trans n2).mut h0 hG2 hp2 True.intro, e1.trans n2.ex, hG2, upd_same, ?_⟩
  · rw [List.getElem?_set_self (by rw [wipe_length]; exact hj)]
  · rw [putK_keys, hr, take_step hx, putAll_snoc]
    unfold Sw.putP
    by_cases z : x ∈ Sw.putAll [] (ps.take i)
    · rw [if_pos (mem_keyP.mpr z), if_pos z]
    · rw [if_neg (fun y => z (mem_keyP.mp y)), if_neg z, List.map_append]
      rfl

mutual
theorem dq_uniq : ∀ {d d' : PyData} {v : V}, Dq G v d → Dq G v d' → d = d'
  | _, _, _, .non, h => by
    cases h
    rfl
  | _, _, _, .bl b, h => by
    cases h
    rfl
  | _, _, _, .int i, h => by
    cases h
    rfl
  | _, _, _, .str x, h => by
    cases h
    rfl
  | _, _, _, .lst e a, h => by
    cases h with
    | lst e' a' =>
      rw [e] at e'
      cases e'
      rw [da_uniq a a']
    | tup e' a' =>
      rw [e] at e'
      cases e'
  | _, _, _, .tup e a, h => by
    cases h with
    | tup e' a' =>
      rw [e] at e'
      cases e'
      rw [da_uniq a a']
    | lst e' a' =>
      rw [e] at e'
      cases e'
theorem da_uniq : ∀ {ds ds' : List PyData} {vs : List V}, DqAll G vs ds → DqAll G vs ds' → ds = ds'
  | _, _, _, .nil, h => by
    cases h
    rfl
  | _, _, _, .cons a t, h => by
    cases h with
    | cons a' t' => rw [dq_uniq a a', da_uniq t t']
end
theorem enc_inj {x y : α} (e : enc x = enc y) : x = y := (Enc.same x y).mp (by
  rw [e]
  exact (Enc.same y y).mpr rfl)
open Classical in
noncomputable def backA (α : Type) [Enc α] [Inhabited α] (G : Hp) (v : V) : α := if h : ∃ x : α, IsE x G v then h.choose else default
theorem backA_of [Inhabited α] {v : V} {x : α} (h : IsE x G v) : backA α G v = x := by
  have hx : ∃ x : α, IsE x G v := ⟨x, h⟩
  unfold backA
  rw [dif_pos hx]
  exact enc_inj (dq_uniq (show Dq G v (enc _) from hx.choose_spec) h)
theorem backAll_of [Inhabited α] : ∀ {xs : List α} {vs : List V}, DqAll G vs (xs.map enc) → vs.map (backA α G) = xs ∧ ∀ v ∈ vs, IsE (backA α G v) G v ∧ backA α G v ∈ xs
  | [], _, .nil => ⟨rfl, fun v hv => by cases hv⟩
  | x :: xs, _, .cons h t => by
    obtain ⟨i1, i2⟩ := backAll_of t
    have e := backA_of h
    refine ⟨by rw [List.map_cons, e, i1], fun v hv => ?_⟩
    rcases List.mem_cons.mp hv with z | z
    · subst z
      rw [e]
      exact ⟨h, List.mem_cons_self⟩
    · exact ⟨(i2 v z).1, List.mem_cons_of_mem _ (i2 v z).2⟩
theorem da_of_back [Inhabited α] : ∀ {vs : List V}, (∀ v ∈ vs, IsE (backA α G v) G v) → DqAll G vs ((vs.map (backA α G)).map enc)
  | [], _ => .nil
  | v :: vs, h => .cons (h v List.mem_cons_self) (da_of_back fun w hw => h w (List.mem_cons_of_mem _ hw))
/-- sorted(xs, key=lambda x: ..) -/
theorem en_sortLam [Inhabited α] {N : List Str} {js : List Nat} {xs : List α} (kf : α → Int) (h : Ev T te σ G xs) (hz : xs.length ≤ 100000) (hk : ∀ x ∈ xs, ∀ G' v, Ex G G' → IsE x G' v → Ev T tb (startF N [v] (js.map (slotAt σ))) G' (kf x)) :
    EvN T (tSortLam K T N js tb te) σ G (xs.mergeSort fun x y => decide (kf x ≤ kf y)) := fun H k Q q => h H k _ fun v G1 H1 n1 r1 => by
  have r1 : Dq G1 v (.list (xs.map enc)) := r1
  cases r1 with
  | @lst a vs _ h1 h2 =>
    have hl := da_len h2
    rw [List.length_map] at hl
    obtain ⟨b1, b2⟩ := backAll_of h2
    refine ⟨n1.kn.tb, a, vs, fun v => kf (backA α G1 v), rfl, .inl (.inl (n1.kn.le _ _ h1)), by omega, fun v hv H2 x2 => ?_, fun H2 p x2 hp => ?_⟩
    · have n2 := Nx.of_xn n1.kn x2
      exact hk _ (b2 v hv).2 G1 v n1.ex (b2 v hv).1 H2 n2.kn _ fun r G3 H3 n3 r3 => ⟨dq_int r3, n3.xn⟩
    · have n2 := Nx.of_xn n1.kn x2
      refine q p _ G1 _ ((n1.trans n2).trans (Nx.fresh n2.kn hp)) ((n1.trans n2).dom p hp) (n2.kn.none hp) upd_same ?_
      have em : (vs.mergeSort fun x y => decide (kf (backA α G1 x) ≤ kf (backA α G1 y))).map (backA α G1) = xs.mergeSort fun x y => decide (kf x ≤ kf y) := by
        rw [← b1]
        exact List.map_mergeSort fun a _ b _ => rfl
      rw [← em]
      exact da_of_back fun v hv => (b2 v (List.mem_mergeSort.mp hv)).1
end
end Ed

set_option Elab.async false
set_option linter.all false
set_option maxRecDepth 100000
namespace Sw
theorem mergeSort_rng {n : Nat} {r ns : List Int} (R : Row n r) (h1 : ns.Perm r) (h2 : ns.Pairwise (· ≤ ·)) : ns = rng n := by
  refine List.Perm.eq_of_pairwise (le := fun x y : Int => x ≤ y) (fun a b _ _ x y => by omega) h2 ?_ (h1.trans R.perm)
  unfold rng rngI
  rw [List.pairwise_map]
  exact List.pairwise_lt_range.imp fun {a b} h => by omega
theorem tpRaw_enum : ∀ (r : List Int), ((List.range r.length).zip r).flatMap (fun p => ((r.drop (p.1 + 1)).filter fun l => decide (l < p.2)).map fun l => (l, p.2)) = tpRaw r
  | [] => rfl
  | h :: t => by
    have ih := tpRaw_enum t
    unfold tpRaw
    rw [← ih]
    show ((List.range (t.length + 1)).zip (h :: t)).flatMap _ = _
    rw [List.range_succ_eq_map, List.zip_cons_cons, List.flatMap_cons]
    show ((t.filter fun l => decide (l < h)).map fun l => (l, h)) ++ _ = _
    congr 1
    rw [List.zip_map_left, List.flatMap_map]
    rfl
end Sw
namespace Ed
open PySem PySem.Spec PySem.Calls PyProof.Rows L2 LamX NdefX
open Ed.Enc (enc)
section
variable {T : Tbs} {K : PySem.W.Frag} {σ : L2.St} {G G2 H : Hp} {ta tb te tl : TE} {t u : TT} {R R' R'' : Rp} {α β γ : Type} [Enc α] [Enc β] [Enc γ] {x y : α}
theorem en_sortedR {n : Nat} {r : List Int} (R : Sw.Row n r) (hn : n ≤ 60) (h : Ev T te σ G r) : EvN T (tCB (rSorted K) (tCons te tNil)) σ G (Sw.rng n) := fun H k Q q => h H k _ fun v G1 H1 n1 r1 => by
  have r1 : Dq G1 v (.list (r.map PyData.int)) := r1
  cases r1 with
  | @lst a vs _ h1 h2 =>
    have hv := da_ints_eq h2
    subst hv
    have hl := R.len
    refine ⟨a, r, rfl, .inl (.inl (n1.kn.le _ _ h1)), by omega, fun ns' p hp hs hf => ?_⟩
    rw [Sw.mergeSort_rng R hp hs]
    exact q p _ G1 _ (n1.trans (Nx.fresh n1.kn hf)) (n1.dom p hf) (n1.kn.none hf) upd_same (da_ints _)
theorem cut_from {xs : List α} {i : Nat} : cutA xs (some (i : Int)) none = xs.drop i := by
  unfold cutA
  rw [HT.sIx_nat, HT.sIx_none]
  by_cases h : i ≤ xs.length
  · rw [Nat.min_eq_left h]
    exact List.take_of_length_le (by rw [List.length_drop]; exact Nat.le_refl _)
  · have e : min i xs.length = xs.length := Nat.min_eq_right (by omega)
    rw [e, List.drop_eq_nil_of_le (Nat.le_refl _), List.drop_eq_nil_of_le (by omega)]
    simp
theorem ea1 (m : Mono R) (h : EvR T ta σ G R) : EvA T (tCons ta tNil) σ G [R] := ea_cons m True.intro h ea_nil
theorem ea2 (m : Mono R) (m' : Mono R') (h : EvR T ta σ G R) (h' : EvR T tb σ G R') : EvA T (tCons ta (tCons tb tNil)) σ G [R, R'] := ea_cons m ⟨m', True.intro⟩ h (ea1 m' h')
theorem ea3 (m : Mono R) (m' : Mono R') (m'' : Mono R'') (h : EvR T ta σ G R) (h' : EvR T tb σ G R') (h'' : EvR T te σ G R'') : EvA T (tCons ta (tCons tb (tCons te tNil))) σ G [R, R', R''] := ea_cons m ⟨m', m'', True.intro⟩ h (ea2 m' m'' h' h'')
theorem ea4 {R3 : Rp} (m : Mono R) (m' : Mono R') (m'' : Mono R'') (m3 : Mono R3) (h : EvR T ta σ G R) (h' : EvR T tb σ G R') (h'' : EvR T te σ G R'') (h3 : EvR T tl σ G R3) : EvA T (tCons ta (tCons tb (tCons te (tCons tl tNil)))) σ G [R, R', R'', R3] :=
  ea_cons m ⟨m', m'', m3, True.intro⟩ h (ea3 m' m'' m3 h' h'' h3)
theorem hu65 {A : Around} {k : Nat} (hr : Room k A) : A.units + 65 < cLine := by
  have := hr.un
  omega
section
variable {X : Cx} {K : PySem.W.Frag}
theorem pi_listK {tg l : Expr} {tl : TE} (h : X.K = K) (hl : PE X l tl) : PI X tg l (iList K tl) := h ▸ pi_list hl
theorem pg_tupK {es : List Expr} {k : Nat} {t : TGs} {n : Nat} {pos : Pos} (e : X.K = K) (hc : X.calm = true) (h : PGs X es t) (hl : (assignEach es X.env).length = n := by rfl) (hs : (assignEach es X.env).findIdx? (·.1) = none := by rfl) :
    PG X (.Tuple es k pos) (gTup K n t) := e ▸ pg_tup hc h hl hs
theorem sl_listK (h : X.K = K) : SlR X (rSlL K) := h ▸ sl_list
theorem ix_listK (h : X.K = K) : IxR X (rIxL K) := h ▸ ix_list
theorem op_inDK (h : X.K = K) (hu : X.A.units + 65 < cLine) : OpR X (compareOp .In) (rInD K) := h ▸ op_inD hu
theorem op_notInDK (h : X.K = K) (hu : X.A.units + 65 < cLine) : OpR X (compareOp .NotIn) (rNotInD K) := h ▸ op_notInD hu
theorem op_eqDK (h : X.K = K) (hu : X.A.units + 64 < cLine) : OpR X (compareOp .Eq) (rEqD K) := h ▸ op_eqD hu
theorem op_neDK (h : X.K = K) (hu : X.A.units + 64 < cLine) : OpR X (compareOp .NotEq) (rNeD K) := h ▸ op_neD hu
theorem call_isiK2 (h : X.K = K) : CallR X (.builtin "isinstance") (rIsi K) := h ▸ call_isi
theorem call_lenK (h : X.K = K) : CallR X (.builtin "len") (fun xs H Q => ∃ p ys, xs = [V.ref p] ∧ (SqL K H p ys ∨ SqT K H p ys) ∧ Q (.int ys.length) H) := h ▸ call_len_seq
end
end
end Ed

set_option Elab.async false
set_option linter.all false
set_option maxRecDepth 100000
namespace Pg
open PySem PySem.Spec PySem.Calls PyProof.Rows L2 LamX NdefX Ed
open Ed.Enc (enc)
def topS (i : Nat) : Stmt := PySem.Challenge.pw_swaplattice_k04_joins_and_reasons.main.body.getD i (.Pass ⟨0, 0, 0, 0⟩)
abbrev sIsWhole : Stmt := topS 8
abbrev sIsMany : Stmt := topS 9
abbrev sIsRow : Stmt := topS 10
abbrev sIsPair : Stmt := topS 11
abbrev sCheckMany : Stmt := topS 12
abbrev sCheckRow : Stmt := topS 13
abbrev sCheckAlike : Stmt := topS 14
abbrev sFirstRow : Stmt := topS 15
abbrev sTurnedPairs : Stmt := topS 16
abbrev sCountAhead : Stmt := topS 17
abbrev sRowWith : Stmt := topS 18
abbrev sFromBehind : Stmt := topS 19


theorem scIsWhole : FnScope ["thing"] ["thing"] (defScope sIsWhole) := ⟨rfl, rfl, rfl, by decide +kernel, rfl, by decide +kernel, by decide +kernel⟩
theorem scIsMany : FnScope ["thing"] ["thing"] (defScope sIsMany) := ⟨rfl, rfl, rfl, by decide +kernel, rfl, by decide +kernel, by decide +kernel⟩
theorem scIsRow : FnScope ["thing", "number"] ["thing"] (defScope sIsRow) := ⟨rfl, rfl, rfl, by decide +kernel, rfl, by decide +kernel, by decide +kernel⟩
theorem scIsPair : FnScope ["thing", "many", "low", "high"] ["thing", "many"] (defScope sIsPair) := ⟨rfl, rfl, rfl, by decide +kernel, rfl, by decide +kernel, by decide +kernel⟩
theorem scCheckMany : FnScope ["many"] ["many"] (defScope sCheckMany) := ⟨rfl, rfl, rfl, by decide +kernel, rfl, by decide +kernel, by decide +kernel⟩
theorem scCheckRow : FnScope ["row"] ["row"] (defScope sCheckRow) := ⟨rfl, rfl, rfl, by decide +kernel, rfl, by decide +kernel, by decide +kernel⟩
theorem scCheckAlike : FnScope ["one", "other"] ["one", "other"] (defScope sCheckAlike) := ⟨rfl, rfl, rfl, by decide +kernel, rfl, by decide +kernel, by decide +kernel⟩
theorem scFirstRow : FnScope ["many"] ["many"] (defScope sFirstRow) := ⟨rfl, rfl, rfl, by decide +kernel, rfl, by decide +kernel, by decide +kernel⟩
theorem scTurnedPairs : FnScope ["row", "at", "high", "low"] ["row"] (defScope sTurnedPairs) := ⟨rfl, rfl, rfl, by decide +kernel, rfl, by decide +kernel, by decide +kernel⟩
theorem scCountAhead : FnScope ["number", "turned", "many", "lower", "higher", "low", "high"] ["number", "turned", "many"] (defScope sCountAhead) := ⟨rfl, rfl, rfl, by decide +kernel, rfl, by decide +kernel, by decide +kernel⟩
theorem scRowWith : FnScope ["pairs", "many", "turned", "row", "pair"] ["pairs", "many"] (defScope sRowWith) := ⟨rfl, rfl, rfl, by decide +kernel, rfl, by decide +kernel, by decide +kernel⟩
theorem scFromBehind : FnScope ["row"] ["row"] (defScope sFromBehind) := ⟨rfl, rfl, rfl, by decide +kernel, rfl, by decide +kernel, by decide +kernel⟩
structure Bi (mg : Str → Option Value) : Prop where
  isinstance : mg "isinstance" = none
  int : mg "int" = none
  bool : mg "bool" = none
  list : mg "list" = none
  tuple : mg "tuple" = none
  len : mg "len" = none
  all : mg "all" = none
  sorted : mg "sorted" = none
  range : mg "range" = none
  enumerate : mg "enumerate" = none
/-- a def that stands, and what it promises -/
structure Df (P : Program) (w : World) (K : PySem.W.Frag) (mg : Str → Option Value) (base : Heap) (x : Str) (k : Nat) (f : Addr) (fd : FuncData) (ps : List Str) (sp : Sp) : Prop where
  ok : FnOk P w K mg base CX0 k f fd ps sp
  g : mg x = some (.ref f)
  kp : PySem.W.keepIn K (.ref f) = true
  bd : Binds K fd ps []
section
variable {P : Program} {w : World} {K : PySem.W.Frag} {mg : Str → Option Value} {base : Heap} {T : Tbs} {f f1 f2 f3 f4 f5 : Addr} {fd d1 d2 d3 d4 d5 : FuncData}

def spIsWhole (T : Tbs) : Sp := fun vs H Q E => ∃ i : Int, Prom T [IsE i] (IsE true) vs H Q E
theorem ok_is_whole (F : Fun K "is_whole" "is_whole" sIsWhole f fd) (B : Bi mg) : FnOk P w K mg base CX0 1 f fd ["thing"] (spIsWhole T) := by
  refine F.ok scIsWhole (fun vs H Q E h => ?_) (fun cdv A outer s H vs Q E hr h => ?_)
  · obtain ⟨i, G, k, r, _⟩ := h
    exact allR_len r
  · obtain ⟨i, G, k, r, q⟩ := h
    match vs, r with
    | [v], ⟨r, _⟩ =>
      refine ⟨_, pss_one (ps_ret (pe_and (pe_callB call_isi (by rfl) B.isinstance (by decide +kernel) (pa_cons (pv 0) (pa_cons (pe_bltn (v := .ty "int") (u := .type "int") (by rfl) B.int (by decide +kernel) rfl) pa_nil)))
        (pe_one (pe_not (pe_callB call_isi (by rfl) B.isinstance (by decide +kernel) (pa_cons (pv 0) (pa_cons (pe_bltn (v := .ty "bool") (u := .type "bool") (by rfl) B.bool (by decide +kernel) rfl) pa_nil))))))), ?_⟩
      exact s_ret k (ev_andV (ev_isi (b := true) isD_ex (ev_var rfl r) fun v G' H' e r => ⟨"int", ty_int r, by decide +kernel⟩) fun _ => ev_notV (ev_isi (b := false) isD_ex (ev_var rfl r) fun v G' H' e r => ⟨"int", ty_int r, by decide +kernel⟩)) fun v G2 H2 n r => q v G2 H2 n r
def spIsMany (T : Tbs) : Sp := fun vs H Q E => ∃ i : Int, Prom T [IsE i] (IsE (decide (1 ≤ i) && decide (i ≤ 12))) vs H Q E
theorem ok_is_many (F : Fun K "is_many" "is_many" sIsMany f fd) (D1 : Df P w K mg base "is_whole" 1 f1 d1 ["thing"] (spIsWhole T)) {t : Tok} (gM : mg "MOST_THINGS" = some (.int 12 t)) : FnOk P w K mg base CX0 2 f fd ["thing"] (spIsMany T) := by
  refine F.ok scIsMany (fun vs H Q E h => ?_) (fun cdv A outer s H vs Q E hr h => ?_)
  · obtain ⟨i, G, k, r, _⟩ := h
    exact allR_len r
  · obtain ⟨i, G, k, r, q⟩ := h
    match vs, r with
    | [v], ⟨r, _⟩ =>
      refine ⟨_, pss_one (ps_ret (pe_and (pe_call D1.ok hr (by rfl) D1.g D1.kp D1.bd .nil pass0 (pa_cons (pv 0) pa_nil)) (pe_one (pe_chain op_le op_le pe_int (pv 0) (pe_glob (v := .int 12) rfl gM ⟨_, rfl⟩))))), ?_⟩
      exact s_ret k (ev_andV (ev_call (ea1 isD_ex (ev_var rfl r)) fun vs H Q E h => ⟨i, h⟩) fun _ => ev_chainI ev_int (ev_var rfl r) ev_int) fun v G2 H2 n r => q v G2 H2 n r
def spIsRow (T : Tbs) : Sp := fun vs H Q E => ∃ (n : Nat) (r : List Int), Sw.Row n r ∧ 1 ≤ n ∧ n ≤ 12 ∧ Prom T [IsE r] (IsE true) vs H Q E
theorem ok_is_row (F : Fun K "is_row" "is_row" sIsRow f fd) (B : Bi mg) (D1 : Df P w K mg base "is_whole" 1 f1 d1 ["thing"] (spIsWhole T)) (D2 : Df P w K mg base "is_many" 2 f2 d2 ["thing"] (spIsMany T)) : FnOk P w K mg base CX0 3 f fd ["thing"] (spIsRow T) := by
  refine F.ok scIsRow (fun vs H Q E h => ?_) (fun cdv A outer s H vs Q E hr h => ?_)
  · obtain ⟨n, r, _, _, _, G, k, w, _⟩ := h
    exact allR_len w
  · obtain ⟨n, r, R, h1, h2, G, k, w, q⟩ := h
    match vs, w with
    | [v], ⟨w, _⟩ =>
      have hl := R.len
      refine ⟨_, pss_cons (ps_if (PW.pt (pw_or (pt_not (pt_val (pe_callB call_isi (by rfl) B.isinstance (by decide +kernel) (pa_cons (pv 0) (pa_cons (pe_bltn (v := .ty "list") (u := .type "list") (by rfl) B.list (by decide +kernel) rfl) pa_nil)))))
          (pw_or1 (pt_not (pt_val (pe_call D2.ok hr (by rfl) D2.g D2.kp D2.bd .nil pass0 (pa_cons (pe_callB call_len_seq (by rfl) B.len PySem.boot_len (pa_cons (pv 0) pa_nil)) pa_nil))))))) (pss_one (ps_ret pe_bl)) pss_nil)
        (pss_cons (ps_if (pt_not (pt_val (pe_callB (cr_all rfl) (by rfl) B.all (by decide +kernel) (pa_cons (pe_lc (own := [("number", 1)]) rfl scIsRow.nd (pi_list (pv 0)) (blkOk_by (own := [("number", 1)]) (N := ["thing", "number"]) (sc := defScope sIsRow) (by decide +kernel))
            (fun _ _ _ _ _ => pg_name (i := 1) scIsRow.nd rfl (.inl rfl)) (fun _ _ _ _ _ => pts_nil) (fun _ _ _ _ _ => pe_call D1.ok (hr.mono (by decide)) (by rfl) D1.g D1.kp D1.bd .nil pass0 (pa_cons (pv 1) pa_nil))) pa_nil)))) (pss_one (ps_ret pe_bl)) pss_nil)
        (pss_one (ps_ret (pe_cmpR (op_eqD hr.units) (pe_callB cr_sorted (by rfl) B.sorted PyProof.Rows.boot_sorted (pa_cons (pv 0) pa_nil)) (pe_listRg rfl (by rfl) B.list (prg_2 (by rfl) B.range pe_int (pe_op op_add (pe_callB call_len_seq (by rfl) B.len PySem.boot_len (pa_cons (pv 0) pa_nil)) pe_int))) (nomark _))))), ?_⟩
      refine q_skip k ((et_or (et_not (et_B (ev_isi (b := true) isD_ex (ev_var rfl w) fun v G' H' e r => ⟨"list", ty_list e r, by decide +kernel⟩))) fun _ => et_not (et_B (ev_call (ea1 isD_ex (ev_len (ev_var rfl w))) fun vs H Q E h => ⟨_, h⟩))).to ?_) fun G1 H1 n1 => ?_
      · rw [hl, decide_eq_true (show (1 : Int) ≤ (n : Int) by omega), decide_eq_true (show (n : Int) ≤ 12 by omega)]
        rfl
      have w1 := isD_ex.ex n1.ex w
      refine q_skip n1.kn ((et_not (et_B (ev_all (EvN.ev (en_lc (fun _ : Int => true) (fun _ => true) (fun x G' σ2 => ∃ v', σ2 = [some v, some v'] ∧ IsE x G' v') (src_list (ev_var rfl w1)) (by omega) (fun x _ G' e => tgt_name) (fun x G' σ2 z => ?_) (fun _ _ _ _ _ _ => et_yes) (fun x hx _ G' σ2 e z => ?_)))))).to ?_) fun G2 H2 n2 => ?_
      · obtain ⟨v', rfl, _⟩ := z
        rfl
      · obtain ⟨v', rfl, r'⟩ := z
        exact ev_call (ea1 isD_ex (ev_var rfl r')) fun vs H Q E h => ⟨x, h⟩
      · simp
      have w2 := isD_ex.ex n2.ex w1
      refine s_ret n2.kn (Ev.to (ev_eqD (EvN.ev (en_sortedR R (by omega) (ev_var rfl w2))) (EvN.ev (en_listRg ev_int (ev_i0 (ev_len (ev_var rfl w2)) ev_int) (by omega)))) ?_) fun v G3 H3 n3 r3 => q v G3 H3 ((n1.trans n2).trans n3) r3
      rw [hl]
      exact decide_eq_true rfl
def spCheckMany (T : Tbs) : Sp := fun vs H Q E => ∃ i : Int, 1 ≤ i ∧ i ≤ 12 ∧ Prom T [IsE i] (IsV .non) vs H Q E
theorem ok_check_many (F : Fun K "check_many" "check_many" sCheckMany f fd) (D2 : Df P w K mg base "is_many" 2 f2 d2 ["thing"] (spIsMany T)) : FnOk P w K mg base CX0 3 f fd ["many"] (spCheckMany T) := by
  refine F.ok scCheckMany (fun vs H Q E h => ?_) (fun cdv A outer s H vs Q E hr h => ?_)
  · obtain ⟨i, _, _, G, k, w, _⟩ := h
    exact allR_len w
  · obtain ⟨i, h1, h2, G, k, w, q⟩ := h
    match vs, w with
    | [v], ⟨w, _⟩ =>
      refine ⟨_, pss_one (ps_if (pt_not (pt_val (pe_call D2.ok hr (by rfl) D2.g D2.kp D2.bd .nil pass0 (pa_cons (pv 0) pa_nil)))) (pss_one ps_never) pss_nil), ?_⟩
      refine s_skip k ((et_not (et_B (ev_call (ea1 isD_ex (ev_var rfl w)) fun vs H Q E h => ⟨_, h⟩))).to ?_) fun G2 H2 n => q .non G2 H2 n rfl
      rw [decide_eq_true h1, decide_eq_true h2]
      rfl
def spCheckRow (T : Tbs) : Sp := fun vs H Q E => ∃ (n : Nat) (r : List Int), Sw.Row n r ∧ 1 ≤ n ∧ n ≤ 12 ∧ Prom T [IsE r] (IsV .non) vs H Q E
theorem ok_check_row (F : Fun K "check_row" "check_row" sCheckRow f fd) (D3 : Df P w K mg base "is_row" 3 f3 d3 ["thing"] (spIsRow T)) : FnOk P w K mg base CX0 4 f fd ["row"] (spCheckRow T) := by
  refine F.ok scCheckRow (fun vs H Q E h => ?_) (fun cdv A outer s H vs Q E hr h => ?_)
  · obtain ⟨n, r, _, _, _, G, k, w, _⟩ := h
    exact allR_len w
  · obtain ⟨n, r, R, h1, h2, G, k, w, q⟩ := h
    match vs, w with
    | [v], ⟨w, _⟩ =>
      refine ⟨_, pss_one (ps_if (pt_not (pt_val (pe_call D3.ok hr (by rfl) D3.g D3.kp D3.bd .nil pass0 (pa_cons (pv 0) pa_nil)))) (pss_one ps_never) pss_nil), ?_⟩
      exact s_skip k ((et_not (et_B (ev_call (ea1 isD_ex (ev_var rfl w)) fun vs H Q E h => ⟨n, r, R, h1, h2, h⟩))).to rfl) fun G2 H2 n => q .non G2 H2 n rfl
def spCheckAlike (T : Tbs) : Sp := fun vs H Q E => ∃ (n : Nat) (r s : List Int), Sw.Row n r ∧ Sw.Row n s ∧ 1 ≤ n ∧ n ≤ 12 ∧ Prom T [IsE r, IsE s] (IsV .non) vs H Q E
theorem ok_check_alike (F : Fun K "check_alike" "check_alike" sCheckAlike f fd) (B : Bi mg) (D4 : Df P w K mg base "check_row" 4 f4 d4 ["row"] (spCheckRow T)) : FnOk P w K mg base CX0 5 f fd ["one", "other"] (spCheckAlike T) := by
  refine F.ok scCheckAlike (fun vs H Q E h => ?_) (fun cdv A outer s H vs Q E hr h => ?_)
  · obtain ⟨n, r, s, _, _, _, _, G, k, w, _⟩ := h
    exact allR_len w
  · obtain ⟨n, r, t, R, S, h1, h2, G, k, w, q⟩ := h
    match vs, w with
    | [v, v'], ⟨w, w', _⟩ =>
      refine ⟨_, pss_cons (ps_expr (pe_call D4.ok hr (by rfl) D4.g D4.kp D4.bd .nil pass0 (pa_cons (pv 0) pa_nil))) (pss_cons (ps_expr (pe_call D4.ok hr (by rfl) D4.g D4.kp D4.bd .nil pass0 (pa_cons (pv 1) pa_nil)))
        (pss_one (ps_if (pt_cmpR op_ne (pe_callB call_len_seq (by rfl) B.len PySem.boot_len (pa_cons (pv 0) pa_nil)) (pe_callB call_len_seq (by rfl) B.len PySem.boot_len (pa_cons (pv 1) pa_nil)) (nomark _)) (pss_one ps_never) pss_nil))), ?_⟩
      refine q_drop k (ev_call (ea1 isD_ex (ev_var rfl w)) fun vs H Q E h => ⟨n, r, R, h1, h2, h⟩) fun _ G1 H1 n1 _ => ?_
      refine q_drop n1.kn (ev_call (ea1 isD_ex (ev_var rfl (isD_ex.ex n1.ex w'))) fun vs H Q E h => ⟨n, t, S, h1, h2, h⟩) fun _ G2 H2 n2 _ => ?_
      have e := n1.ex.trans n2.ex
      refine s_skip n2.kn ((et_test (ev_neI (ev_len (ev_var rfl (isD_ex.ex e w))) (ev_len (ev_var rfl (isD_ex.ex e w'))))).to ?_) fun G3 H3 n3 => q .non G3 H3 ((n1.trans n2).trans n3) rfl
      rw [R.len, S.len, decide_eq_true rfl]
      rfl
def spFirstRow (T : Tbs) : Sp := fun vs H Q E => ∃ n : Nat, 1 ≤ n ∧ n ≤ 12 ∧ PromN T [IsE (n : Int)] (Sw.rng n) vs H Q E
theorem ok_first_row (F : Fun K "first_row" "first_row" sFirstRow f fd) (B : Bi mg) (D3 : Df P w K mg base "check_many" 3 f3 d3 ["many"] (spCheckMany T)) : FnOk P w K mg base CX0 4 f fd ["many"] (spFirstRow T) := by
  refine F.ok scFirstRow (fun vs H Q E h => ?_) (fun cdv A outer s H vs Q E hr h => ?_)
  · obtain ⟨n, _, _, G, k, w, _⟩ := h
    exact allR_len w
  · obtain ⟨n, h1, h2, G, k, w, q⟩ := h
    match vs, w with
    | [v], ⟨w, _⟩ =>
      refine ⟨_, pss_cons (ps_expr (pe_call D3.ok hr (by rfl) D3.g D3.kp D3.bd .nil pass0 (pa_cons (pv 0) pa_nil))) (pss_one (ps_ret (pe_listRg rfl (by rfl) B.list (prg_2 (by rfl) B.range pe_int (pe_op op_add (pv 0) pe_int))))), ?_⟩
      refine q_drop k (ev_call (ea1 isD_ex (ev_var rfl w)) fun vs H Q E h => ⟨n, by omega, by omega, h⟩) fun _ G1 H1 n1 _ => ?_
      exact s_retN n1.kn (en_listRg ev_int (ev_i0 (ev_var rfl (isD_ex.ex n1.ex w)) ev_int) (by omega)) fun p vs G2 H2 n2 h0 hG hp r => q p vs G2 H2 (n1.trans n2) (n1.dom p h0) hG hp r
end
end Pg

set_option Elab.async false
set_option linter.all false
set_option maxRecDepth 100000
namespace Pg
open PySem PySem.Spec PySem.Calls PyProof.Rows L2 LamX NdefX Ed
open Ed.Enc (enc)
section
variable {P : Program} {w : World} {K : PySem.W.Frag} {mg : Str → Option Value} {base : Heap} {T : Tbs} {f f1 f2 f3 f4 f5 : Addr} {fd d1 d2 d3 d4 d5 : FuncData}

def spTurnedPairs (T : Tbs) : Sp := fun vs H Q E => ∃ (n : Nat) (r : List Int), Sw.Row n r ∧ 1 ≤ n ∧ n ≤ 12 ∧ PromN T [IsE r] (Sw.tp r) vs H Q E
theorem ok_turned_pairs (F : Fun K "turned_pairs" "turned_pairs" sTurnedPairs f fd) (B : Bi mg) (D4 : Df P w K mg base "check_row" 4 f4 d4 ["row"] (spCheckRow T)) : FnOk P w K mg base CX0 5 f fd ["row"] (spTurnedPairs T) := by
  refine F.ok scTurnedPairs (fun vs H Q E h => ?_) (fun cdv A outer s H vs Q E hr h => ?_)
  · obtain ⟨n, r, _, _, _, G, k, w, _⟩ := h
    exact allR_len w
  · obtain ⟨n, r, R, h1, h2, G, k, w, q⟩ := h
    match vs, w with
    | [v], ⟨w, _⟩ =>
      have hl := R.len
      refine ⟨_, pss_cons (ps_expr (pe_call D4.ok hr (by rfl) D4.g D4.kp D4.bd .nil pass0 (pa_cons (pv 0) pa_nil)))
        (pss_one (ps_ret (pe_callB cr_sortedPO (by rfl) B.sorted PyProof.Rows.boot_sorted (pa_cons (pe_lc2 (own := [("at", 1), ("high", 2), ("low", 3)]) (vs1 := [3]) rfl scTurnedPairs.nd (pi_enum (by rfl) B.enumerate (pa_cons (pv 0) pa_nil))
          (blkOk_by (own := [("at", 1), ("high", 2), ("low", 3)]) (N := ["row", "at", "high", "low"]) (sc := defScope sTurnedPairs) (by decide +kernel)) (by decide)
          (fun _ _ _ _ _ => pg_tupK (K := K) (n := 2) rfl rfl (pgs_cons (pg_name (i := 1) scTurnedPairs.nd rfl (.inl rfl)) (pgs_cons (pg_name (i := 2) scTurnedPairs.nd rfl (.inl rfl)) pgs_nil))) (fun _ _ _ _ _ => pts_nil)
          (fun _ _ _ _ _ => pi_listK (K := K) rfl (pe_slice (sl_listK (K := K) rfl) (pv 0) (po_some (pe_op op_add (pv 1) pe_int)) po_none)) (fun _ _ _ _ _ => pg_name (i := 3) scTurnedPairs.nd rfl (.inl rfl))
          (fun _ _ _ _ _ => pts_one (pt_cmpR op_lt (pv 3) (pv 2) (nomark _))) (fun _ _ _ _ _ => pe_tup (pa_cons (pv 3) (pa_cons (pv 2) pa_nil)))) pa_nil)))), ?_⟩
      refine q_drop k (ev_call (ea1 isD_ex (ev_var rfl w)) fun vs H Q E h => ⟨n, r, R, h1, h2, h⟩) fun _ G1 H1 n1 _ => ?_
      have w1 := isD_ex.ex n1.ex w
      refine s_retN n1.kn ((en_sortedP (EvN.ev (EvN.to (en_lc2 (xs := enumZ r) (fun _ => true) (fun p => r.drop (p.1.toNat + 1)) (fun p l => decide (l < p.2)) (fun p l => (l, p.2))
          (fun p G' σ2 => ∃ v1 v2, σ2 = [some v, some v1, some v2, none] ∧ IsE p.1 G' v1 ∧ IsE p.2 G' v2) (fun p l G' σ3 => ∃ v1 v2 v3, σ3 = [some v, some v1, some v2, some v3] ∧ IsE p.2 G' v2 ∧ IsE l G' v3)
          (src_enum (ev_var rfl w1)) ?_ ?_ (fun p hp G' e => ?_) (fun p G' σ2 z => ?_) (fun _ _ _ _ _ _ => et_yes) (fun p hp _ G' σ2 e z => ?_) (fun p hp G' σ2 e z l hl2 G2 e2 => ?_) (fun p hp l hl2 G' σ3 e z => ?_) (fun p hp l hl2 _ G' σ3 e z => ?_)) ?_))))
        fun p vs G2 H2 n2 h0 hG hp r2 => q p vs G2 H2 (n1.trans n2) (n1.dom p h0) hG hp r2
      · rw [enumZ_len, hl]
        omega
      · intro p _
        rw [List.length_drop, hl]
        omega
      · exact tgt_pair
      · obtain ⟨v1, v2, rfl, _, _⟩ := z
        rfl
      · obtain ⟨v1, v2, rfl, r1, r2⟩ := z
        have he := en_sl (T := T) (K := K) (th := tNoPart) (ev_var (σ := [some v, some v1, some v2, none]) (i := 0) rfl (isD_ex.ex e w1)) (eo_some (ev_i0 (f := fun i j => i + j) (ev_var (i := 1) rfl r1) (ev_int (i := 1)))) eo_none
        have ei : (p.1 + 1 : Int) = ((p.1.toNat + 1 : Nat) : Int) := by
          have hp' : 0 ≤ p.1 := by
            unfold enumZ at hp
            obtain ⟨q, _, rfl⟩ := List.mem_map.mp hp
            exact Int.natCast_nonneg _
          omega
        have he2 := src_list (K := K) he.ev
        rw [ei, cut_from] at he2
        exact he2
      · obtain ⟨v1, v2, rfl, r1, r2⟩ := z
        intro v3 G3 H3 e3 k3 r3 Q3 q3
        exact q3 _ ⟨rfl, v1, v2, v3, rfl, isD_ex.ex (e2.trans e3) r2, r3⟩
      · obtain ⟨v1, v2, v3, rfl, r2, r3⟩ := z
        exact et_test (ev_b0 (f := fun i j => decide (i < j)) (ev_var (i := 3) rfl r3) (ev_var (i := 2) rfl r2))
      · obtain ⟨v1, v2, v3, rfl, r2, r3⟩ := z
        exact ev_pair (ev_var (i := 3) rfl r3) (ev_var (i := 2) rfl r2)
      · show ((enumZ r).filter fun _ => true).flatMap _ = Sw.tpRaw r
        rw [← Sw.tpRaw_enum r]
        unfold enumZ
        rw [List.filter_eq_self.mpr (fun _ _ => rfl), List.flatMap_map]
        rfl
end
end Pg

set_option Elab.async false
set_option linter.all false
set_option maxRecDepth 100000
namespace Pg
open PySem PySem.Spec PySem.Calls PyProof.Rows L2 LamX NdefX Ed
open Ed.Enc (enc)
section
variable {P : Program} {w : World} {K : PySem.W.Frag} {mg : Str → Option Value} {base : Heap} {T : Tbs} {f f1 f2 f3 f4 f5 f6 f7 f8 : Addr} {fd d1 d2 d3 d4 d5 d6 d7 d8 : FuncData}

def spCountAhead (T : Tbs) : Sp := fun vs H Q E => ∃ (n : Nat) (x : Int) (ps : List (Int × Int)), 1 ≤ x ∧ x ≤ (n : Int) ∧ n ≤ 12 ∧ Prom T [IsE x, IsT ps, IsE (n : Int)] (IsE (Sw.ahead (fun a b => decide ((a, b) ∈ ps)) n x)) vs H Q E
theorem ok_count_ahead (F : Fun K "count_ahead" "count_ahead" sCountAhead f fd) (B : Bi mg) : FnOk P w K mg base CX0 1 f fd ["number", "turned", "many"] (spCountAhead T) := by
  refine F.ok scCountAhead (fun vs H Q E h => ?_) (fun cdv A outer s H vs Q E hr h => ?_)
  · obtain ⟨n, x, ps, _, _, _, G, k, w, _⟩ := h
    exact allR_len w
  · obtain ⟨n, x, ps, h1, h2, h3, G, k, w, q⟩ := h
    match vs, w with
    | [v1, v2, v3], ⟨w1, w2, w3, _⟩ =>
      refine ⟨_, pss_cons (ps_setLc (i := 3) (own := [("low", 5)]) (g := gName 5) rfl scCountAhead.nd rfl rfl (sw_true rfl rfl rfl (by decide +kernel)) (pi_range2 (by rfl) B.range (pa_cons pe_int (pa_cons (pv 0) pa_nil)))
          (blkOk_by (own := [("low", 5)]) (N := ["number", "turned", "many", "lower", "higher", "low", "high"]) (sc := defScope sCountAhead) (by decide +kernel)) (fun _ _ _ _ _ => pg_name (i := 5) scCountAhead.nd rfl (.inl rfl))
          (fun _ _ _ _ _ => pts_one (pt_cmp (pc_dnotin (hu_of hr) (pe_tup (pa_cons (pv 5) (pa_cons (pv 0) pa_nil))) (pv 1)))) (fun _ _ _ _ _ => pv 5))
        (pss_cons (ps_setLc (i := 4) (own := [("high", 6)]) (g := gName 6) rfl scCountAhead.nd rfl rfl (sw_true rfl rfl rfl (by decide +kernel)) (pi_range2 (by rfl) B.range (pa_cons (pe_op op_add (pv 0) pe_int) (pa_cons (pe_op op_add (pv 2) pe_int) pa_nil)))
          (blkOk_by (own := [("high", 6)]) (N := ["number", "turned", "many", "lower", "higher", "low", "high"]) (sc := defScope sCountAhead) (by decide +kernel)) (fun _ _ _ _ _ => pg_name (i := 6) scCountAhead.nd rfl (.inl rfl))
          (fun _ _ _ _ _ => pts_one (pt_cmp (pc_din (hu_of hr) (pe_tup (pa_cons (pv 0) (pa_cons (pv 6) pa_nil))) (pv 1)))) (fun _ _ _ _ _ => pv 6))
        (pss_one (ps_ret (pe_op op_add (pe_callB call_len_seq (by rfl) B.len PySem.boot_len (pa_cons (pv 3) pa_nil)) (pe_callB call_len_seq (by rfl) B.len PySem.boot_len (pa_cons (pv 4) pa_nil)))))), ?_⟩
      refine q_asg k (EvN.ev (en_lc (fun l : Int => !decide ((l, x) ∈ ps)) (fun l => l) (fun l G' σ2 => ∃ v', σ2 = [some v1, some v2, some v3, none, none, some v', none] ∧ IsE l G' v') (src_rng2 ev_int (ev_var rfl w1) (by omega)) (by rw [Sw.len_rngI]; omega)
        (fun l _ G' e => tgt_name) (fun l G' σ2 z => ?_) (fun l _ G' σ2 e z => ?_) (fun l _ _ G' σ2 e z => ?_))) fun u1 G1 H1 n1 a1 => ?_
      · obtain ⟨v', rfl, _⟩ := z
        rfl
      · obtain ⟨v', rfl, r'⟩ := z
        exact et_B (ev_dnotinT (ev_pair (ev_var (i := 5) rfl r') (ev_var (i := 0) rfl (isD_ex.ex e w1))) (ev_var (i := 1) rfl (isT_ex.ex e w2)))
      · obtain ⟨v', rfl, r'⟩ := z
        exact ev_var (i := 5) rfl r'
      have x1 := isD_ex.ex n1.ex w1
      have x2 := isT_ex.ex n1.ex w2
      have x3 := isD_ex.ex n1.ex w3
      refine q_asg n1.kn (EvN.ev (en_lc (fun l : Int => decide ((x, l) ∈ ps)) (fun l => l) (fun l G' σ2 => ∃ v', σ2 = [some v1, some v2, some v3, some u1, none, none, some v'] ∧ IsE l G' v') (src_rng2 (ev_i0 (f := fun i j => i + j) (ev_var rfl x1) (ev_int (i := 1))) (ev_i0 (f := fun i j => i + j) (ev_var rfl x3) (ev_int (i := 1))) (by omega)) (by rw [Sw.len_rngI]; omega)
        (fun l _ G' e => tgt_name) (fun l G' σ2 z => ?_) (fun l _ G' σ2 e z => ?_) (fun l _ _ G' σ2 e z => ?_))) fun u2 G2 H2 n2 a2 => ?_
      · obtain ⟨v', rfl, _⟩ := z
        rfl
      · obtain ⟨v', rfl, r'⟩ := z
        exact et_B (ev_dinT (ev_pair (ev_var (i := 0) rfl (isD_ex.ex e x1)) (ev_var (i := 6) rfl r')) (ev_var (i := 1) rfl (isT_ex.ex e x2)))
      · obtain ⟨v', rfl, r'⟩ := z
        exact ev_var (i := 6) rfl r'
      refine s_ret n2.kn (Ev.to (ev_i0 (f := fun i j => i + j) (ev_len (ev_var (i := 3) rfl (isD_ex.ex n2.ex a1))) (ev_len (ev_var (i := 4) rfl a2))) ?_) fun v G3 H3 n3 r3 => q v G3 H3 ((n1.trans n2).trans n3) r3
      unfold Sw.ahead
      rw [List.map_id', List.map_id']
def spFromBehind (T : Tbs) : Sp := fun vs H Q E => ∃ (n : Nat) (r : List Int), Sw.Row n r ∧ 1 ≤ n ∧ n ≤ 12 ∧ PromN T [IsE r] r.reverse vs H Q E
theorem ok_from_behind (F : Fun K "from_behind" "from_behind" sFromBehind f fd) (D4 : Df P w K mg base "check_row" 4 f4 d4 ["row"] (spCheckRow T)) : FnOk P w K mg base CX0 5 f fd ["row"] (spFromBehind T) := by
  refine F.ok scFromBehind (fun vs H Q E h => ?_) (fun cdv A outer s H vs Q E hr h => ?_)
  · obtain ⟨n, r, _, _, _, G, k, w, _⟩ := h
    exact allR_len w
  · obtain ⟨n, r, R, h1, h2, G, k, w, q⟩ := h
    match vs, w with
    | [v], ⟨w, _⟩ =>
      refine ⟨_, pss_cons (ps_expr (pe_call D4.ok hr (by rfl) D4.g D4.kp D4.bd .nil pass0 (pa_cons (pv 0) pa_nil))) (pss_one (ps_ret (pe_revL (pv 0)))), ?_⟩
      refine q_drop k (ev_call (ea1 isD_ex (ev_var rfl w)) fun vs H Q E h => ⟨n, r, R, h1, h2, h⟩) fun _ G1 H1 n1 _ => ?_
      exact s_retN n1.kn (en_rev (ev_var rfl (isD_ex.ex n1.ex w))) fun p vs G2 H2 n2 h0 hG hp r2 => q p vs G2 H2 (n1.trans n2) (n1.dom p h0) hG hp r2
def spRenamed (T : Tbs) : Sp := fun vs H Q E => ∃ (n : Nat) (r : List Int), Sw.Row n r ∧ 1 ≤ n ∧ n ≤ 12 ∧ PromN T [IsE r] (Sw.ren r) vs H Q E
def spIsBelow (T : Tbs) : Sp := fun vs H Q E => ∃ (n : Nat) (r s : List Int), Sw.Row n r ∧ Sw.Row n s ∧ 1 ≤ n ∧ n ≤ 12 ∧ Prom T [IsE r, IsE s] (IsE (Sw.bl r s)) vs H Q E
theorem tp_len {n : Nat} {r : List Int} (R : Sw.Row n r) (hn : n ≤ 12) : (Sw.tp r).length ≤ 144 := by
  have key : ∀ (l : List Int), (Sw.tpRaw l).length ≤ l.length * l.length := by
    intro l
    induction l with
    | nil => exact Nat.le_refl _
    | cons h t ih =>
      unfold Sw.tpRaw
      rw [List.length_append, List.length_map, List.length_cons]
      have := List.length_filter_le (fun l => decide (l < h)) t
      have e : (t.length + 1) * (t.length + 1) = t.length * t.length + t.length + t.length + 1 := by
        rw [Nat.add_mul, Nat.mul_add]
        omega
      omega
  have h1 := key r
  rw [R.len] at h1
  have h2 : n * n ≤ 12 * 12 := Nat.mul_le_mul hn hn
  have h3 : (Sw.tp r).length = (Sw.tpRaw r).length := (Sw.srtP_perm _).length_eq
  omega
end
end Pg

set_option Elab.async false
set_option linter.all false
set_option maxRecDepth 100000
namespace Pg
open PySem PySem.Spec PySem.Calls PyProof.Rows L2 LamX NdefX Ed
open Ed.Enc (enc)
/-- a def whose code object's address is told -/
structure FunC (K : PySem.W.Frag) (x qual : Str) (st : Stmt) (f : Addr) (fd : FuncData) (c : Addr) : Prop where
  ex : ∃ (oc : Value) (od : Option Addr) (kV doc pm : Value) (an : Option Addr) (ct : Value) (osl : Array (Option Value)),
    fd = PySem.W.fnOf x qual (defArgs st) (defBody st) (defScope st) .none kV doc pm an (.ref c) ct ∧ K.lookup f = some ⟨oc, od, .func fd, osl⟩ ∧ PySem.W.codeIn K (.ref c) qual = true
  kp : PySem.W.keepIn K (.ref f) = true
section
variable {P : Program} {w : World} {K : PySem.W.Frag} {mg : Str → Option Value} {base : Heap} {T : Tbs} {f f1 f2 f3 f4 f5 f6 f7 f8 c Pt : Addr} {fd d1 d2 d3 d4 d5 d6 d7 d8 : FuncData}
theorem FunC.fn {x qual : Str} {st : Stmt} (F : FunC K x qual st f fd c) : Fun K x qual st f fd := by
  obtain ⟨⟨oc, od, kV, doc, pm, an, ct, osl, h1, h2, h3⟩, h4⟩ := F
  exact ⟨⟨oc, od, kV, doc, pm, an, _, ct, osl, h1, h2, h3⟩, h4⟩
theorem FunC.okc {x qual : Str} {st : Stmt} {N ps : List Str} {k : Nat} {sp : Sp} (F : FunC K x qual st f fd c) (S : FnScope N ps (defScope st)) (len : ∀ vs H Q E, sp vs H Q E → vs.length = ps.length)
    (hbody : ∀ (A : Around) (outer : List Env) (s : Shared) (H : Hp) (vs : List V) (Q : VK) (E : XK), Room k (A.deeper (envOfC qual (defScope st) s.heap.objs.size f (.ref c))) → sp vs H Q E →
      ∃ t, PSs (cxOf CX0 P w K mg base N qual (defScope st) f (.ref c) A outer s H E).nox (defBody st) t ∧ t { nx := fun _ H' => Q .non H', rt := Q } (start N vs) H) : FnOk P w K mg base CX0 (k + 1) f fd ps sp := by
  obtain ⟨oc, od, kV, doc, pm, an, ct, osl, rfl, lk, hcd⟩ := F.ex
  exact fn_of lk hcd S len fun A outer s H vs Q E hr hsp => (hbody A outer s H vs Q E hr hsp).elim fun t h => ⟨t, h.1.nox, h.2⟩
theorem q_skipH {G H : Hp} {σ : L2.St} {t : TT} {tu tz : TS} {D : Ends} {p : Addr} {o : HO} (k : Kn T G H) (hG : G p = none) (hp : H p = some o) (nt : ∀ ps, o ≠ .tbl ps) (h : EvT T t σ (upd G p o) false) (c : ∀ G2 H2, Nx T G H G2 H2 → G2 p = none → H2 p = some o → tz D σ H2) :
    tSeq (tIfS t tu tNext) tz D σ H := heldT h k hG hp nt fun G2 H2 n g e => iteF (c G2 H2 n g e)
def spIsPair (T : Tbs) : Sp := fun vs H Q E => ∃ (a b m : Int), Prom T [IsE (a, b), IsE m] (IsE (decide (1 ≤ a) && (decide (a < b) && decide (b ≤ m)))) vs H Q E
theorem ev_len2 {α β : Type} [Enc α] [Enc β] {σ : L2.St} {G : Hp} {te : TE} {p : α × β} (h : Ev T te σ G p) : Ev T (tCB (fun xs H Q => ∃ p ys, xs = [V.ref p] ∧ (SqL K H p ys ∨ SqT K H p ys) ∧ Q (.int ys.length) H) (tCons te tNil)) σ G (2 : Int) := fun H k Q q =>
  h H k _ fun v G1 H1 n1 r1 => by
    have r1 : Dq G1 v (.tuple [enc p.1, enc p.2]) := r1
    cases r1 with
    | @tup a vs _ h1 h2 =>
      have hl := da_len h2
      refine ⟨a, vs, rfl, .inr (.inl (.inl (n1.kn.le _ _ h1))), ?_⟩
      rw [hl]
      exact q _ G1 H1 n1 (.int _)
theorem ok_is_pair (F : Fun K "is_pair" "is_pair" sIsPair f fd) (B : Bi mg) (D1 : Df P w K mg base "is_whole" 1 f1 d1 ["thing"] (spIsWhole T)) : FnOk P w K mg base CX0 2 f fd ["thing", "many"] (spIsPair T) := by
  refine F.ok scIsPair (fun vs H Q E h => ?_) (fun cdv A outer s H vs Q E hr h => ?_)
  · obtain ⟨a, b, m, G, k, w, _⟩ := h
    exact allR_len w
  · obtain ⟨a, b, m, G, k, w, q⟩ := h
    match vs, w with
    | [v, v'], ⟨w, w', _⟩ =>
      refine ⟨_, pss_cons (ps_if (PW.pt (pw_or (pt_not (pt_val (pe_callB call_isi (by rfl) B.isinstance (by decide +kernel) (pa_cons (pv 0) (pa_cons (pe_bltn (v := .ty "tuple") (u := .type "tuple") (by rfl) B.tuple (by decide +kernel) rfl) pa_nil)))))
          (pw_or1 (pt_cmpR op_ne (pe_callB call_len_seq (by rfl) B.len PySem.boot_len (pa_cons (pv 0) pa_nil)) pe_int (nomark _))))) (pss_one (ps_ret pe_bl)) pss_nil)
        (pss_cons (ps_asg (pv 0) (pg_tup rfl (pgs_cons (pg_name (i := 2) scIsPair.nd rfl (.inl rfl)) (pgs_cons (pg_name (i := 3) scIsPair.nd rfl (.inl rfl)) pgs_nil))))
        (pss_one (ps_ret (pe_and (pe_call D1.ok hr (by rfl) D1.g D1.kp D1.bd .nil pass0 (pa_cons (pv 2) pa_nil)) (pe_and (pe_call D1.ok hr (by rfl) D1.g D1.kp D1.bd .nil pass0 (pa_cons (pv 3) pa_nil)) (pe_one (pe_chain3 op_le op_lt op_le pe_int (pv 2) (pv 3) (pv 1)))))))), ?_⟩
      refine q_skip k ((et_or (et_not (et_B (ev_isi (b := true) isD_ex (ev_var rfl w) fun v G' H' e r => ⟨"tuple", ty_pair e r, by decide +kernel⟩))) fun _ => et_test (ev_neI (ev_len2 (ev_var (i := 0) rfl w)) ev_int)).to rfl) fun G1 H1 n1 => ?_
      refine q_asgG n1.kn (ev_var rfl (isD_ex.ex n1.ex w)) (fun G' e => tgt_pair) fun σ2 G2 H2 n2 z => ?_
      obtain ⟨v1, v2, rfl, r1, r2⟩ := z
      exact s_ret n2.kn (ev_andV (ev_call (ea1 isD_ex (ev_var (i := 2) rfl r1)) fun vs H Q E h => ⟨a, h⟩) fun _ => ev_andV (ev_call (ea1 isD_ex (ev_var (i := 3) rfl r2)) fun vs H Q E h => ⟨b, h⟩) fun _ => ev_chainI3 ev_int (ev_var (i := 2) rfl r1) (ev_var (i := 3) rfl r2) (ev_var (i := 1) rfl (isD_ex.ex (n1.ex.trans n2.ex) w')))
        fun v G3 H3 n3 r3 => q v G3 H3 ((n1.trans n2).trans n3) r3
def spRowWith (T : Tbs) : Sp := fun vs H Q E => ∃ (n : Nat) (r : List Int) (ps : List (Int × Int)), Sw.Row n r ∧ 1 ≤ n ∧ n ≤ 12 ∧ ps.Nodup ∧ (∀ a b, (a, b) ∈ ps ↔ Sw.Inv r a b) ∧ PromN T [IsE ps, IsE (n : Int)] r vs H Q E
abbrev lamQ : Str := (envOfC "row_with" (defScope sRowWith) 0 0 .none).qual ++ "<lambda>"
theorem ok_row_with (F : FunC K "row_with" "row_with" sRowWith f fd c) (B : Bi mg) (TB : TabB base mg c Pt) (inT : (Pt, lamQ) ∈ T) (one : ∀ p ∈ T, p.1 = Pt → p.2 = lamQ) (D1 : Df P w K mg base "count_ahead" 1 f1 d1 ["number", "turned", "many"] (spCountAhead T))
    (D2 : Df P w K mg base "is_pair" 2 f2 d2 ["thing", "many"] (spIsPair T)) (D3 : Df P w K mg base "check_many" 3 f3 d3 ["many"] (spCheckMany T)) (D4 : Df P w K mg base "first_row" 4 f4 d4 ["many"] (spFirstRow T)) (D5 : Df P w K mg base "turned_pairs" 5 f5 d5 ["row"] (spTurnedPairs T)) :
    FnOk P w K mg base CX0 6 f fd ["pairs", "many"] (spRowWith T) := by
  refine F.okc scRowWith (fun vs H Q E h => ?_) (fun A outer s H vs Q E hr h => ?_)
  · obtain ⟨n, r, ps, _, _, _, _, _, G, k, w, _⟩ := h
    exact allR_len w
  · obtain ⟨n, r, ps, R, h1, h2, np, hp, G, k, w, q⟩ := h
    match vs, w with
    | [v, v'], ⟨w, w', _⟩ =>
      have plen : ps.length ≤ 144 := by
        have e : ps.Perm (Sw.tp r) := Sw.perm_of_mem np (Sw.nodup_tp R.nodup) fun ⟨a, b⟩ => by rw [hp, Sw.mem_tp R.nodup]
        rw [e.length_eq]
        exact tp_len R h2
      refine ⟨_, pss_cons (ps_expr (pe_call D3.ok (hr.mono (by decide)) (by rfl) D3.g D3.kp D3.bd .nil pass0 (pa_cons (pv 1) pa_nil)))
        (pss_cons (ps_if (PW.pt (pw_or (pt_not (pt_val (pe_callB call_isi (by rfl) B.isinstance (by decide +kernel) (pa_cons (pv 0) (pa_cons (pe_bltn (v := .ty "list") (u := .type "list") (by rfl) B.list (by decide +kernel) rfl) pa_nil)))))
          (pw_or1 (pt_not (pt_val (pe_callB (cr_all rfl) (by rfl) B.all (by decide +kernel) (pa_cons (pe_lc (own := [("pair", 4)]) rfl scRowWith.nd (pi_list (pv 0)) (blkOk_by (own := [("pair", 4)]) (N := ["pairs", "many", "turned", "row", "pair"]) (sc := defScope sRowWith) (by decide +kernel))
            (fun _ _ _ _ _ => pg_name (i := 4) scRowWith.nd rfl (.inl rfl)) (fun _ _ _ _ _ => pts_nil) (fun _ _ _ _ _ => pe_call D2.ok (hr.mono (by decide)) (by rfl) D2.g D2.kp D2.bd .nil pass0 (pa_cons (pv 4) (pa_cons (pv 1) pa_nil)))) pa_nil))))))) (pss_one ps_never) pss_nil)
        (pss_cons (ps_set (i := 2) scRowWith.nd rfl (.inr rfl) (pe_dcT (own := [("pair", 4)]) (hu_of hr) rfl scRowWith.nd (pi_list (pv 0)) (blkOk_by (own := [("pair", 4)]) (N := ["pairs", "many", "turned", "row", "pair"]) (sc := defScope sRowWith) (by decide +kernel))
            (fun _ _ _ _ _ => pg_name (i := 4) scRowWith.nd rfl (.inl rfl)) (fun _ _ _ _ _ => pts_nil) (fun _ _ _ _ _ => pv 4) (fun _ _ _ _ _ => pe_bl)))
        (pss_cons (ps_set (i := 3) scRowWith.nd rfl (.inl rfl) (pe_sortLam (k := 1) (N := ["number", "turned", "many"]) (par := "number") (fr := ["turned", "many"]) (js := [2, 1]) (by rfl) B.sorted (pa_cons (pe_call D4.ok (hr.mono (by decide)) (by rfl) D4.g D4.kp D4.bd .nil pass0 (pa_cons (pv 1) pa_nil)) pa_nil) rfl TB rfl inT one (hr.mono (by decide))
            (nscope_by (by decide +kernel)) rfl (ndef_free (sc := defScope sRowWith) (fr := ["turned", "many"]) (by decide +kernel)) (ndef_fr (sc := defScope sRowWith) (fr := ["turned", "many"]) (by decide +kernel)) rfl (fun _ _ _ _ _ _ => rfl)
            (fun A outer s H f c' hr' => pe_call D1.ok hr' (by rfl) D1.g D1.kp D1.bd .nil pass0 (pa_cons (pv 0) (pa_cons (pv 1) (pa_cons (pv 2) pa_nil))))))
        (pss_cons (ps_if (pt_cmpR (op_neD hr.units) (pe_call D5.ok hr (by rfl) D5.g D5.kp D5.bd .nil pass0 (pa_cons (pv 3) pa_nil)) (pe_callB cr_sortedPO (by rfl) B.sorted PyProof.Rows.boot_sorted (pa_cons (pv 0) pa_nil)) (nomark _)) (pss_one ps_never) pss_nil)
        (pss_one (ps_ret (pv 3))))))), ?_⟩
      have hmem : ∀ a b, decide ((a, b) ∈ Sw.putAll [] ps) = true ↔ Sw.Inv r a b := fun a b => by
        rw [decide_eq_true_iff, Sw.mem_putAll, ← hp]
        simp
      refine q_drop k (ev_call (ea1 isD_ex (ev_var rfl w')) fun vs H Q E h => ⟨(n : Int), by omega, by omega, h⟩) fun _ G1 H1 n1 _ => ?_
      have x1 := isD_ex.ex n1.ex w
      have x2 := isD_ex.ex n1.ex w'
      refine q_skip n1.kn ((et_or (et_not (et_B (ev_isi (b := true) isD_ex (ev_var rfl x1) fun v G' H' e r => ⟨"list", ty_list e r, by decide +kernel⟩))) fun _ => et_not (et_B (ev_all (EvN.ev (en_lc (fun _ : Int × Int => true) (fun p => decide (1 ≤ p.1) && (decide (p.1 < p.2) && decide (p.2 ≤ (n : Int))))
        (fun x G' σ2 => ∃ u, σ2 = [some v, some v', none, none, some u] ∧ IsE x G' u) (src_list (ev_var rfl x1)) (by omega) (fun x _ G' e => tgt_name) (fun x G' σ2 z => ?_) (fun _ _ _ _ _ _ => et_yes) (fun x hx _ G' σ2 e z => ?_)))))).to ?_) fun G2 H2 n2 => ?_
      · obtain ⟨u, rfl, _⟩ := z
        rfl
      · obtain ⟨u, rfl, r'⟩ := z
        exact ev_call (ea2 isD_ex isD_ex (ev_var (i := 4) rfl r') (ev_var (i := 1) rfl (isD_ex.ex e x2))) fun vs H Q E h => ⟨x.1, x.2, n, h⟩
      · have e : ((ps.filter fun _ => true).map fun p => decide (1 ≤ p.1) && (decide (p.1 < p.2) && decide (p.2 ≤ (n : Int)))).all id = true := by
          rw [List.all_eq_true]
          intro b hb
          obtain ⟨p, hp1, rfl⟩ := List.mem_map.mp hb
          have hp2 := (hp p.1 p.2).mp (List.mem_filter.mp hp1).1
          have bd := hp2.bounds R
          show (decide (1 ≤ p.1) && (decide (p.1 < p.2) && decide (p.2 ≤ (n : Int)))) = true
          rw [decide_eq_true bd.1, decide_eq_true bd.2.1, decide_eq_true bd.2.2]
          rfl
        rw [e]
        rfl
      have n12 := n1.trans n2
      have y1 := isD_ex.ex n2.ex x1
      have y2 := isD_ex.ex n2.ex x2
      refine q_asg n2.kn (EvM.evT (em_dc (src_list (ev_var rfl y1)) (by omega) (by show 4 < 5; decide) (fun x => rfl))) fun u G3 H3 n3 a3 => ?_
      have z1 := isD_ex.ex n3.ex y1
      have z2 := isD_ex.ex n3.ex y2
      refine q_asgN n3.kn (EvN.to (en_sortLam (Sw.ahead (fun a b => decide ((a, b) ∈ Sw.putAll [] ps)) n) (EvN.ev (en_call (ea1 isD_ex (ev_var (i := 1) rfl z2)) fun vs H Q E h => ⟨n, h1, h2, h⟩)) (by rw [Sw.len_rngI]; omega)
        (fun x hx G' v3 e r3 => ev_call (ea3 isD_ex isT_ex isD_ex (ev_var (i := 0) rfl r3) (ev_var (i := 1) rfl (isT_ex.ex e a3)) (ev_var (i := 2) rfl (isD_ex.ex e z2))) fun vs H Q E h => ?_)) (Sw.sorted_row R hmem (List.mergeSort_perm _ _) ?_)) fun p ws G4 H4 n4 h0 hG4 hp4 hr4 => ?_
      · have := Sw.mem_rngI.mp hx
        exact ⟨n, x, _, by omega, by omega, h2, h⟩
      · have pw := List.pairwise_mergeSort (le := fun x y => decide (Sw.ahead (fun a b => decide ((a, b) ∈ Sw.putAll [] ps)) n x ≤ Sw.ahead (fun a b => decide ((a, b) ∈ Sw.putAll [] ps)) n y)) (fun a b c p q => decide_eq_true (by
          have := of_decide_eq_true p
          have := of_decide_eq_true q
          omega)) (fun a b => by
          rw [Bool.or_eq_true, decide_eq_true_iff, decide_eq_true_iff]
          omega) (Sw.rng n)
        exact pw.imp fun h => of_decide_eq_true h
      have hq : IsE r (upd G4 p (.lst ws)) (.ref p) := .lst upd_same (da_ex (Ex.new hG4) hr4)
      refine q_skipH n4.kn hG4 hp4 nt_lst ((et_test (ev_neD (EvN.ev (en_call (ea1 isD_ex (ev_var (i := 3) rfl hq)) fun vs H Q E h => ⟨n, r, R, h1, h2, h⟩)) (EvN.ev (en_sortedP (ev_var (i := 0) rfl (isD_ex.ex (n4.ex.trans (Ex.new hG4)) z1)))))).to ?_) fun G5 H5 n5 hG5 hp5 => ?_
      · rw [Sw.srtP_tp R.nodup np hp, decide_eq_true rfl]
        rfl
      have nn := ((n12.trans n3).trans n4).trans n5
      exact ⟨.ref p, rfl, q p ws G5 H5 nn (n12.dom p (n3.dom p h0)) hG5 hp5 (da_ex n5.ex hr4)⟩
end
end Pg

set_option Elab.async false
set_option linter.all false
set_option maxRecDepth 100000
namespace Ed
open PySem PySem.Spec PySem.Calls PyProof.Rows L2 LamX NdefX
open Ed.Enc (enc)
/-- as Src, the heap as it was at each turn -/
def SrcS (T : Tbs) (wi : TI) (σ : L2.St) (G : Hp) {α : Type} [Enc α] (xs : List α) : Prop := ∀ H, Kn T G H → ∀ R : It → Hp → Prop,
  (∀ J G2 H2, Nx T G H G2 H2 → Walk J xs.length (fun H' => ∃ G', Ex G2 G' ∧ Ex G' H') (fun i H' v H'' => H'' = H' ∧ ∃ x, xs[i]? = some x ∧ ∀ G', Ex G2 G' → Ex G' H' → IsE x G' v) → R J H2) → wi σ H R
/-- a loop's word: what is known at its start is known still -/
def Lp (T : Tbs) (G2 : Hp) (Pv : L2.St → Hp → Hp → Prop) : L2.St → Hp → Prop := fun σ H => ∃ G', Ex G2 G' ∧ Kn T G' H ∧ Pv σ G' H
section
variable {T : Tbs} {K : PySem.W.Frag} {σ : L2.St} {G G2 H : Hp} {ta tb te tl : TE} {t u : TT} {R R' R'' : Rp} {α β γ : Type} [Enc α] [Enc β] [Enc γ] {x y : α} {D : Ends} {tz tu tw ts : TS} {g : TG} {wi : TI}
theorem srcs_list {xs : List α} (h : Ev T tl σ G xs) : SrcS T (iList K tl) σ G xs := fun H k R q => h H k _ fun v G1 H1 n1 r1 => by
  have r1 : Dq G1 v (.list (xs.map enc)) := r1
  cases r1 with
  | @lst a vs _ h1 h2 =>
    have hl := da_len h2
    rw [List.length_map] at hl
    have sq : ∀ H', (∃ G', Ex G1 G' ∧ Ex G' H') → SqL K H' a vs := fun H' ⟨G', e1, e2⟩ => .inl (.inl (e2 _ _ (e1 _ _ h1)))
    refine ⟨a, rfl, ⟨vs, .inl (.inl (n1.kn.le _ _ h1))⟩, q _ G1 H1 n1 ?_⟩
    rw [← hl]
    refine (walk_list (K := K) (a := a) (xs := vs)).mono sq fun i H' v H'' hi hG y => ?_
    obtain ⟨e, hv⟩ := y
    refine ⟨e, ?_⟩
    obtain ⟨d, hd, _⟩ := da_at h2 hv
    rw [List.getElem?_map] at hd
    cases hx : xs[i]? with
    | none =>
      rw [hx] at hd
      cases hd
    | some x =>
      refine ⟨x, rfl, fun G' e1 _ => ?_⟩
      obtain ⟨d2, hd2, r2⟩ := da_at (da_ex e1 h2) hv
      rw [List.getElem?_map, hx] at hd2
      have e2 : enc x = d2 := Option.some.inj hd2
      show Dq G' v (enc x)
      rw [e2]
      exact r2
theorem srcs_rng2 {i j : Int} (ha : Ev T ta σ G i) (hb : Ev T tb σ G j) (hr : -1000000 ≤ i ∧ i ≤ 1000000 ∧ -1000000 ≤ j ∧ j ≤ 1000000) : SrcS T (iRng2 (tCons ta (tCons tb tNil))) σ G (Sw.rngI i j) := fun H k R q =>
  ha H k _ fun v G1 H1 n1 r1 => EvR.mono isD_ex hb n1.ex H1 n1.kn _ fun w G2 H2 n2 r2 => by
    rw [dq_int r1, dq_int r2]
    refine ⟨i, j, rfl, ⟨by omega, by omega, by omega, by omega⟩, q _ G2 H2 (n1.trans n2) ?_⟩
    rw [Sw.len_rngI]
    refine walk_range.mono (fun _ _ => True.intro) fun l H' v H'' hl hG y => ?_
    obtain ⟨e1, e2⟩ := y
    subst e2
    exact ⟨e1, _, rngI_at hl, fun G' _ _ => .int _⟩
theorem srcs_rng1 {j : Int} (hb : Ev T tb σ G j) (hr : j ≤ 1000000) (hr0 : -1000000 ≤ j) : SrcS T (iRng1 (tCons tb tNil)) σ G (Sw.rngI 0 j) := fun H k R q =>
  hb H k _ fun w G2 H2 n2 r2 => by
    rw [dq_int r2]
    refine ⟨j, rfl, by omega, by omega, q _ G2 H2 n2 ?_⟩
    rw [Sw.len_rngI, Int.sub_zero]
    refine walk_range.mono (fun _ _ => True.intro) fun l H' v H'' hl hG y => ?_
    obtain ⟨e1, e2⟩ := y
    subst e2
    exact ⟨e1, _, rngI_at (by rw [Int.sub_zero]; exact hl), fun G' _ _ => .int _⟩
theorem s_for {xs : List α} (k : Kn T G H) (h : SrcS T wi σ G xs) (Pv : Nat → L2.St → Hp → Hp → Prop) (h0 : ∀ G2 H2, Nx T G H G2 H2 → Pv 0 σ G2 H2)
    (hs : ∀ G2 i x v σ' G' H', Ex G G2 → xs[i]? = some x → Ex G2 G' → Kn T G' H' → IsE x G' v → Pv i σ' G' H' → g v σ' H' fun σ2 H2 => ts { D with nx := Lp T G2 (Pv (i + 1)), ct := Lp T G2 (Pv (i + 1)), bk := D.nx } σ2 H2)
    (hd : ∀ σ' G' H', Ex G G' → Kn T G' H' → Pv xs.length σ' G' H' → D.nx σ' H') : tFor wi g ts D σ H := h H k _ fun J G2 H2 n w => by
  refine for_it w (fun i => Lp T G2 (Pv i)) ⟨G2, Ex.refl G2, n.kn, h0 G2 H2 n⟩ (fun i σ' H' _ ⟨G', e, k', _⟩ => ⟨G', e, k'.le⟩) (fun i v σ' H' H'' hi ⟨G', e, k', p⟩ ⟨eH, x, hx, hv⟩ => ?_) fun σ' H' ⟨G', e, k', p⟩ => hd σ' G' H' (n.ex.trans e) k' p
  subst eH
  exact hs G2 i x v σ' G' _ n.ex hx e k' (hv G' e k'.le) p
theorem q_for {xs : List α} (k : Kn T G H) (h : SrcS T wi σ G xs) (Pv : Nat → L2.St → Hp → Hp → Prop) (h0 : ∀ G2 H2, Nx T G H G2 H2 → Pv 0 σ G2 H2)
    (hs : ∀ G2 i x v σ' G' H', Ex G G2 → xs[i]? = some x → Ex G2 G' → Kn T G' H' → IsE x G' v → Pv i σ' G' H' → g v σ' H' fun σ2 H2 => ts { D with nx := Lp T G2 (Pv (i + 1)), ct := Lp T G2 (Pv (i + 1)), bk := tz D } σ2 H2)
    (hd : ∀ σ' G' H', Ex G G' → Kn T G' H' → Pv xs.length σ' G' H' → tz D σ' H') : tSeq (tFor wi g ts) tz D σ H := s_for (D := { D with nx := tz D }) k h Pv h0 hs hd
theorem s_ifH {p : Addr} {o : HO} {b : Bool} (k : Kn T G H) (hG : G p = none) (hp : H p = some o) (nt : ∀ ps, o ≠ .tbl ps) (h : EvT T t σ (upd G p o) b) (h1 : b = true → ∀ G2 H2, Nx T G H G2 H2 → G2 p = none → H2 p = some o → tu D σ H2) (h2 : b = false → ∀ G2 H2, Nx T G H G2 H2 → G2 p = none → H2 p = some o → tw D σ H2) :
    tIfS t tu tw D σ H := heldT h k hG hp nt fun G2 H2 n g e => by
  cases b with
  | true => exact iteT (h1 rfl G2 H2 n g e)
  | false => exact iteF (h2 rfl G2 H2 n g e)
/-- list(d), d's keys being pairs -/
theorem keysAll {B : Hp} : ∀ {kvs : List (List Key × V)} {bs : List Addr} {ps : List (Int × Int)}, Paired (fun (p : List Key × V) b => B b = some (.tup (p.1.map kV))) kvs bs → kvs.map (·.1) = ps.map keyP → DqAll B (bs.map V.ref) (ps.map enc)
  | [], _, [], .nil, _ => .nil
  | _ :: _, _, [], _, e => by cases e
  | [], _, _ :: _, _, e => by cases e
  | kv :: kvs, _, p :: ps, .cons h t, e => by
    rw [List.map_cons, List.map_cons] at e
    injection e with e1 e2
    rw [e1] at h
    exact .cons (.tup h (.cons (.int _) (.cons (.int _) .nil))) (keysAll t e2)
theorem paired_left {α β : Type} {R : α → β → Prop} : ∀ {xs : List α} {ys : List β}, Paired R xs ys → ∀ y ∈ ys, ∃ x, R x y
  | _, _, .nil, _, h => by cases h
  | _, _, .cons r t, y, h => by
    rcases List.mem_cons.mp h with z | z
    · subst z
      exact ⟨_, r⟩
    · exact paired_left t y z
theorem paired_mono {α β : Type} {R S : α → β → Prop} : ∀ {xs : List α} {ys : List β}, Paired R xs ys → (∀ x, ∀ y ∈ ys, R x y → S x y) → Paired S xs ys
  | _, _, .nil, _ => .nil
  | _, _, .cons r t, h => .cons (h _ _ List.mem_cons_self r) (paired_mono t fun x y hy => h x y (List.mem_cons_of_mem _ hy))
theorem en_listD {ps : List (Int × Int)} (h : EvR T te σ G (IsT ps)) :
    EvN T (tCB (fun xs H Q => ∃ d kvs, xs = [V.ref d] ∧ Rd H d (.dT kvs) ∧ ∀ p bs, H p = none → IsKeys H kvs bs → Q (.ref p) (upd H p (.lst (bs.map V.ref)))) (tCons te tNil)) σ G ps := fun H k Q q => h H k _ fun v G1 H1 n1 r1 => by
  obtain ⟨d, kvs, rfl, h1, h2⟩ := r1
  refine ⟨d, kvs, rfl, .inl (n1.kn.le _ _ h1), fun p bs hp hk => ?_⟩
  have hk : Paired (fun (p : List Key × V) b => H1 b = some (.tup (p.1.map kV))) kvs bs := hk
  obtain ⟨G2, e2, eB, n2⟩ := n1.know (B := fun a => if a ∈ bs then H1 a else none) fun a o e => by
    by_cases ha : a ∈ bs
    · have e' : H1 a = some o := by
        have z : (if a ∈ bs then H1 a else none) = some o := e
        rw [if_pos ha] at z
        exact z
      obtain ⟨kv, z⟩ := paired_left hk a ha
      rw [e'] at z
      exact ⟨⟨_, Option.some.inj z⟩, e'⟩
    · have z : (if a ∈ bs then H1 a else none) = some o := e
      rw [if_neg ha] at z
      cases z
  refine q p _ G2 _ (n2.trans (Nx.fresh n2.kn hp)) (n2.dom p hp) (n2.kn.none hp) upd_same (da_ex eB (keysAll (paired_mono hk fun x y hy z => ?_) h2))
  show (if y ∈ bs then H1 y else none) = _
  rw [if_pos hy]
  exact z
end
end Ed

set_option Elab.async false
set_option linter.all false
set_option maxRecDepth 100000
namespace Pg
open PySem PySem.Spec PySem.Calls PyProof.Rows L2 LamX NdefX Ed
open Ed.Enc (enc)
abbrev sTie : Stmt := topS 21
abbrev sJoin : Stmt := topS 22
abbrev sMeet : Stmt := topS 23
theorem scTie : FnScope ["one", "other", "pair"] ["one", "other"] (defScope sTie) := ⟨rfl, rfl, rfl, by decide +kernel, rfl, by decide +kernel, by decide +kernel⟩
theorem scJoin : FnScope ["one", "other", "turned", "many", "middle", "low", "high"] ["one", "other"] (defScope sJoin) := ⟨rfl, rfl, rfl, by decide +kernel, rfl, by decide +kernel, by decide +kernel⟩
theorem scMeet : FnScope ["one", "other"] ["one", "other"] (defScope sMeet) := ⟨rfl, rfl, rfl, by decide +kernel, rfl, by decide +kernel, by decide +kernel⟩
theorem foldl_len {α β : Type} {f : List β → α → List β} {c : Nat} (hf : ∀ t x, (f t x).length ≤ t.length + c) : ∀ (xs : List α) (t : List β), (xs.foldl f t).length ≤ t.length + c * xs.length
  | [], t => Nat.le_refl _
  | x :: xs, t => by
    rw [List.foldl_cons, List.length_cons]
    have h1 := foldl_len hf xs (f t x)
    have h2 := hf t x
    have e : c * (xs.length + 1) = c * xs.length + c := Nat.mul_succ _ _
    omega
theorem len_putP (t : List (Int × Int)) (p : Int × Int) : (Sw.putP t p).length ≤ t.length + 1 := by
  unfold Sw.putP
  split
  · omega
  · rw [List.length_append]
    exact Nat.le_refl _
theorem len_stepH (m l : Int) (t : List (Int × Int)) (h : Int) : (Sw.stepH m l t h).length ≤ t.length + 1 := by
  unfold Sw.stepH
  split
  · exact len_putP _ _
  · omega
theorem len_stepL {n : Nat} (hn : n ≤ 12) (m : Int) (hm : 1 ≤ m) (t : List (Int × Int)) (l : Int) : (Sw.stepL n m t l).length ≤ t.length + 12 := by
  have h := foldl_len (len_stepH m l) (Sw.rngI (m + 1) ((n : Int) + 1)) t
  rw [Sw.len_rngI] at h
  unfold Sw.stepL
  omega
theorem len_stepM {n : Nat} (hn : n ≤ 12) (t : List (Int × Int)) (m : Int) (h1 : 1 ≤ m) (h2 : m ≤ 12) : (Sw.stepM n t m).length ≤ t.length + 144 := by
  have h := foldl_len (len_stepL hn m h1) (Sw.rngI 1 m) t
  rw [Sw.len_rngI] at h
  unfold Sw.stepM
  omega
theorem take_foldl {α β : Type} {f : β → α → β} {xs : List α} {i : Nat} {x : α} {b : β} (h : xs[i]? = some x) : (xs.take (i + 1)).foldl f b = f ((xs.take i).foldl f b) x := by
  have e : xs.take (i + 1) = xs.take i ++ [x] := by
    rw [List.take_add_one, h] <;> rfl
  rw [e, List.foldl_append]
  rfl
section
variable {P : Program} {w : World} {K : PySem.W.Frag} {mg : Str → Option Value} {base : Heap} {T : Tbs} {f f1 f2 f3 f4 f5 f6 f7 f8 c Pt : Addr} {fd d1 d2 d3 d4 d5 d6 d7 d8 : FuncData}
def spTie (T : Tbs) : Sp := fun vs H Q E => ∃ (n : Nat) (r s : List Int), Sw.Row n r ∧ Sw.Row n s ∧ 1 ≤ n ∧ n ≤ 12 ∧ PromM T [IsE r, IsE s] (Sw.uni r s) vs H Q E
theorem ok_tie (F : Fun K "turned_in_either" "turned_in_either" sTie f fd) (D6 : Df P w K mg base "turned_pairs" 5 f6 d6 ["row"] (spTurnedPairs T)) : FnOk P w K mg base CX0 6 f fd ["one", "other"] (spTie T) := by
  refine F.ok scTie (fun vs H Q E h => ?_) (fun cdv A outer s H vs Q E hr h => ?_)
  · obtain ⟨n, r, s, _, _, _, _, G, k, w, _⟩ := h
    exact allR_len w
  · obtain ⟨n, r, t, R, S, h1, h2, G, k, w, q⟩ := h
    match vs, w with
    | [v, v'], ⟨w, w', _⟩ =>
      have l1 := tp_len R h2
      have l2 := tp_len S h2
      refine ⟨_, pss_one (ps_ret (pe_dcT (own := [("pair", 2)]) (hu_of hr) rfl scTie.nd (pi_list (pe_op op_cat (pe_call D6.ok hr (by rfl) D6.g D6.kp D6.bd .nil pass0 (pa_cons (pv 0) pa_nil)) (pe_call D6.ok hr (by rfl) D6.g D6.kp D6.bd .nil pass0 (pa_cons (pv 1) pa_nil))))
          (blkOk_by (own := [("pair", 2)]) (N := ["one", "other", "pair"]) (sc := defScope sTie) (by decide +kernel)) (fun _ _ _ _ _ => pg_name (i := 2) scTie.nd rfl (.inl rfl)) (fun _ _ _ _ _ => pts_nil) (fun _ _ _ _ _ => pv 2) (fun _ _ _ _ _ => pe_bl))), ?_⟩
      exact s_retM k (em_dc (src_list (EvN.ev (en_cat (EvN.ev (en_call (ea1 isD_ex (ev_var (i := 0) rfl w)) fun vs H Q E h => ⟨n, r, R, h1, h2, h⟩)) (EvN.ev (en_call (ea1 isD_ex (ev_var (i := 1) rfl w')) fun vs H Q E h => ⟨n, t, S, h1, h2, h⟩)) (by omega)))) (by rw [List.length_append]; omega) (by show 2 < 3; decide) (fun x => rfl))
        fun p kvs G2 H2 n2 h0 hG hp hk => q p kvs G2 H2 n2 h0 hG hp hk
def spJoin (T : Tbs) : Sp := fun vs H Q E => ∃ (n : Nat) (r s : List Int), Sw.Row n r ∧ Sw.Row n s ∧ 1 ≤ n ∧ n ≤ 12 ∧ PromN T [IsE r, IsE s] (Sw.jn r s) vs H Q E
/-- how things stand within the join's loops -/
def JW (T : Tbs) (G0 H0 : Hp) (v v' : V) (p : Addr) (n : Nat) (ys : List (Option V)) (t : List (Int × Int)) (σ : L2.St) (G H : Hp) : Prop :=
  ∃ kvs, σ = [some v, some v', some (.ref p), some (.int n)] ++ ys ∧ Nx T G0 H0 G H ∧ G p = none ∧ H p = some (.dT kvs) ∧ kvs.map (·.1) = t.map keyP
theorem ok_join (F : Fun K "join" "join" sJoin f fd) (B : Bi mg) (D5 : Df P w K mg base "check_alike" 5 f5 d5 ["one", "other"] (spCheckAlike T)) (D6 : Df P w K mg base "turned_in_either" 6 f6 d6 ["one", "other"] (spTie T)) (D7 : Df P w K mg base "row_with" 6 f7 d7 ["pairs", "many"] (spRowWith T)) :
    FnOk P w K mg base CX0 7 f fd ["one", "other"] (spJoin T) := by
  refine F.ok scJoin (fun vs H Q E h => ?_) (fun cdv A outer s H vs Q E hr h => ?_)
  · obtain ⟨n, r, s, _, _, _, _, G, k, w, _⟩ := h
    exact allR_len w
  · obtain ⟨n, r, t, R, S, h1, h2, G, k, w, q⟩ := h
    match vs, w with
    | [v, v'], ⟨w, w', _⟩ =>
      refine ⟨_, pss_cons (ps_expr (pe_call D5.ok (hr.mono (by decide)) (by rfl) D5.g D5.kp D5.bd .nil pass0 (pa_cons (pv 0) (pa_cons (pv 1) pa_nil))))
        (pss_cons (ps_set (i := 2) scJoin.nd rfl (.inl rfl) (pe_call D6.ok hr (by rfl) D6.g D6.kp D6.bd .nil pass0 (pa_cons (pv 0) (pa_cons (pv 1) pa_nil))))
        (pss_cons (ps_set (i := 3) scJoin.nd rfl (.inl rfl) (pe_callB call_len_seq (by rfl) B.len PySem.boot_len (pa_cons (pv 0) pa_nil)))
        (pss_cons (ps_for PassesOwn.never rfl (pi_range2 (by rfl) B.range (pa_cons pe_int (pa_cons (pv 3) pa_nil))) (pg_name (i := 4) scJoin.nd rfl (.inl rfl))
          (pss_one (ps_for PassesOwn.never rfl (pi_range2 (by rfl) B.range (pa_cons pe_int (pa_cons (pv 4) pa_nil))) (pg_name (i := 5) scJoin.nd rfl (.inl rfl))
            (pss_one (ps_for PassesOwn.never rfl (pi_range2 (by rfl) B.range (pa_cons (pe_op op_add (pv 4) pe_int) (pa_cons (pe_op op_add (pv 3) pe_int) pa_nil))) (pg_name (i := 6) scJoin.nd rfl (.inl rfl))
              (pss_one (ps_if (PW.pt (pw_and (pt_cmp (pc_din (hu_of hr) (pe_tup (pa_cons (pv 5) (pa_cons (pv 4) pa_nil))) (pv 2))) (pw_and1 (pt_cmp (pc_din (hu_of hr) (pe_tup (pa_cons (pv 4) (pa_cons (pv 6) pa_nil))) (pv 2))))))
                (pss_one (ps_dput (hu_of hr) (pv 2) (pe_tup (pa_cons (pv 5) (pa_cons (pv 6) pa_nil))) pe_bl rfl)) pss_nil)))))))
        (pss_one (ps_ret (pe_call D7.ok hr (by rfl) D7.g D7.kp D7.bd .nil pass0 (pa_cons (pe_callTy (call_list_dT rfl) (by rfl) B.list (by decide +kernel) (pa_cons (pv 2) pa_nil)) (pa_cons (pv 3) pa_nil)))))))), ?_⟩
      have hl := R.len
      have t0len : (Sw.uni r t).length ≤ 288 := by
        have l1 := tp_len R h2
        have l2 := tp_len S h2
        have l3 := putAll_len (ps := Sw.tp r ++ Sw.tp t) (t := [])
        rw [List.length_append, List.length_nil] at l3
        unfold Sw.uni
        omega
      refine q_drop k (ev_call (ea2 isD_ex isD_ex (ev_var rfl w) (ev_var rfl w')) fun vs H Q E h => ⟨n, r, t, R, S, h1, h2, h⟩) fun _ G1 H1 n1 _ => ?_
      refine q_asgM n1.kn (em_call (ea2 isD_ex isD_ex (ev_var (i := 0) rfl (isD_ex.ex n1.ex w)) (ev_var (i := 1) rfl (isD_ex.ex n1.ex w'))) fun vs H Q E h => ⟨n, r, t, R, S, h1, h2, h⟩) fun p kvs G2 H2 n2 p0 hG2 hp2 hk2 => ?_
      have n02 := n1.trans n2
      have p00 := n1.dom p p0
      refine q_asg n2.kn (ev_len (ev_var (i := 0) rfl (isD_ex.ex n02.ex w))) fun u G3 H3 n3 r3 => ?_
      have n03 := n02.trans n3
      obtain ⟨hG3, hp3⟩ := stays n3 hG2 hp2 nt_dT nu_dT
      have eu := dq_int r3
      rw [hl] at eu
      subst eu
      refine q_for n3.kn (srcs_rng2 ev_int (ev_var (i := 3) rfl (Dq.int (n : Int))) (by omega)) (fun i σ' G' H' => ∃ y4 y5 y6, JW T G H v v' p n [y4, y5, y6] (((Sw.rngI 2 (n : Int)).take i).foldl (Sw.stepM n) (Sw.uni r t)) σ' G' H')
        (fun G4 H4 n4 => ?_) (fun G4 i m vm σ' G' H' e4 hm e' k' rm hw => ?_) (fun σ' G' H' e' k' hw => ?_)
      · obtain ⟨hG4, hp4⟩ := stays n4 hG3 hp3 nt_dT nu_dT
        exact ⟨none, none, none, kvs, rfl, n03.trans n4, hG4, hp4, hk2⟩
      · obtain ⟨y4, y5, y6, kv5, rfl, n5, hG5, hp5, hk5⟩ := hw
        have em := dq_int rm
        subst em
        have hmm := Sw.mem_rngI.mp (List.mem_of_getElem? hm)
        have tl : (((Sw.rngI 2 (n : Int)).take i).foldl (Sw.stepM n) (Sw.uni r t)).length ≤ 288 + 144 * 12 := by
          have key : ∀ (ms : List Int) (t : List (Int × Int)), (∀ m ∈ ms, 1 ≤ m ∧ m ≤ 12) → (ms.foldl (Sw.stepM n) t).length ≤ t.length + 144 * ms.length := by
            intro ms
            induction ms with
            | nil => intro t _; exact Nat.le_refl _
            | cons m ms ih =>
              intro t hms
              rw [List.foldl_cons, List.length_cons]
              have q1 := ih (Sw.stepM n t m) fun m' hm' => hms m' (List.mem_cons_of_mem _ hm')
              have q2 := hms m List.mem_cons_self
              have q3 := len_stepM h2 t m q2.1 q2.2
              omega
          have q1 := key ((Sw.rngI 2 (n : Int)).take i) (Sw.uni r t) fun m hm => by
            have := Sw.mem_rngI.mp (List.mem_of_mem_take hm)
            omega
          have q2 : ((Sw.rngI 2 (n : Int)).take i).length ≤ 12 := by
            rw [List.length_take, Sw.len_rngI]
            omega
          omega
        generalize ht1 : ((Sw.rngI 2 (n : Int)).take i).foldl (Sw.stepM n) (Sw.uni r t) = t1 at hk5 tl
        -- low
        refine s_for k' (srcs_rng2 ev_int (ev_var (i := 4) rfl (Dq.int m)) (by omega)) (fun j σ' G' H' => ∃ y5 y6, JW T G H v v' p n [some (.int m), y5, y6] (((Sw.rngI 1 m).take j).foldl (Sw.stepL n m) t1) σ' G' H' ∧ Ex G4 G')
          (fun G6 H6 n6 => ?_) (fun G6 j l vl σ'' G'' H'' e6 hl' e'' k'' rl hw2 => ?_) (fun σ'' G'' H'' e'' k'' hw2 => ?_)
        · obtain ⟨hG6, hp6⟩ := stays n6 hG5 hp5 nt_dT nu_dT
          exact ⟨y5, y6, ⟨kv5, rfl, n5.trans n6, hG6, hp6, hk5⟩, e'.trans n6.ex⟩
        · obtain ⟨y5', y6', ⟨kv6, rfl, n7, hG7, hp7, hk7⟩, e47⟩ := hw2
          have el := dq_int rl
          subst el
          have hll := Sw.mem_rngI.mp (List.mem_of_getElem? hl')
          have tl2 : (((Sw.rngI 1 m).take j).foldl (Sw.stepL n m) t1).length ≤ 288 + 144 * 12 + 144 := by
            have q1 := foldl_len (len_stepL h2 m (by omega)) ((Sw.rngI 1 m).take j) t1
            have q2 : ((Sw.rngI 1 m).take j).length ≤ 12 := by
              rw [List.length_take, Sw.len_rngI]
              omega
            omega
          generalize ht2 : ((Sw.rngI 1 m).take j).foldl (Sw.stepL n m) t1 = t2 at hk7 tl2
          -- high
          refine s_for k'' (srcs_rng2 (ev_i0 (f := fun i j => i + j) (ev_var (i := 4) rfl (Dq.int m)) (ev_int (i := 1))) (ev_i0 (f := fun i j => i + j) (ev_var (i := 3) rfl (Dq.int (n : Int))) (ev_int (i := 1))) (by omega))
            (fun h σ' G' H' => ∃ y6, JW T G H v v' p n [some (.int m), some (.int l), y6] (((Sw.rngI (m + 1) ((n : Int) + 1)).take h).foldl (Sw.stepH m l) t2) σ' G' H' ∧ Ex G6 G' ∧ Ex G4 G')
            (fun G8 H8 n8 => ?_) (fun G8 h hi vh σ3 G9 H9 e8 hh e9 k9 rh hw3 => ?_) (fun σ3 G9 H9 e9 k9 hw3 => ?_)
          · obtain ⟨hG8, hp8⟩ := stays n8 hG7 hp7 nt_dT nu_dT
            exact ⟨y6', ⟨kv6, rfl, n7.trans n8, hG8, hp8, hk7⟩, e''.trans n8.ex, e47.trans n8.ex⟩
          · obtain ⟨y6'', ⟨kv9, rfl, n9, hG9, hp9, hk9⟩, e69, e49⟩ := hw3
            have eh := dq_int rh
            subst eh
            have tl3 : (((Sw.rngI (m + 1) ((n : Int) + 1)).take h).foldl (Sw.stepH m l) t2).length ≤ 288 + 144 * 12 + 144 + 12 := by
              have q1 := foldl_len (len_stepH m l) ((Sw.rngI (m + 1) ((n : Int) + 1)).take h) t2
              have q2 : ((Sw.rngI (m + 1) ((n : Int) + 1)).take h).length ≤ 12 := by
                rw [List.length_take, Sw.len_rngI]
                omega
              omega
            have hstep := take_foldl (f := Sw.stepH m l) (b := t2) hh
            rw [hstep]
            generalize ht3 : ((Sw.rngI (m + 1) ((n : Int) + 1)).take h).foldl (Sw.stepH m l) t2 = t3 at hk9 tl3
            have hkl : kv9.length ≤ 10000 := by
              have := congrArg List.length hk9
              rw [List.length_map, List.length_map] at this
              omega
            have kT : IsT t3 (upd G9 p (.dT kv9)) (.ref p) := ⟨p, kv9, rfl, upd_same, hk9⟩
            refine s_ifH (b := decide ((l, m) ∈ t3) && decide ((m, hi) ∈ t3)) n9.kn hG9 hp9 nt_dT (et_and (et_B (ev_dinT (ev_pair (ev_var (i := 5) rfl (Dq.int l)) (ev_var (i := 4) rfl (Dq.int m))) (ev_var (i := 2) rfl kT)))
              fun _ => et_B (ev_dinT (ev_pair (ev_var (i := 4) rfl (Dq.int m)) (ev_var (i := 6) rfl (Dq.int hi))) (ev_var (i := 2) rfl kT))) (fun hb GA HA nA hGA hpA => ?_) fun hb GA HA nA hGA hpA => ?_
            · rw [Bool.and_eq_true, decide_eq_true_iff, decide_eq_true_iff] at hb
              refine s_put (i := 2) nA.kn rfl hGA hpA hk9 (by omega) (ev_pair (ev_var (i := 5) rfl (Dq.int l)) (ev_var (i := 6) rfl (Dq.int hi))) fun kv' GB HB nB hGB hpB hkB => ?_
              have nn := ((n9.trans nA).trans nB).mut (o' := .dT kv') p00 hGB hpB True.intro
              refine ⟨GB, (e9.trans nA.ex).trans nB.ex, nn.kn, some (.int hi), ⟨kv', rfl, nn, hGB, upd_same, ?_⟩, e69.trans (nA.ex.trans nB.ex), e49.trans (nA.ex.trans nB.ex)⟩
              unfold Sw.stepH
              rw [if_pos hb]
              exact hkB
            · have hb' : ¬ ((l, m) ∈ t3 ∧ (m, hi) ∈ t3) := fun z => by
                rw [decide_eq_true z.1, decide_eq_true z.2] at hb
                cases hb
              refine ⟨GA, e9.trans nA.ex, nA.kn, some (.int hi), ⟨kv9, rfl, n9.trans nA, hGA, hpA, ?_⟩, e69.trans nA.ex, e49.trans nA.ex⟩
              unfold Sw.stepH
              rw [if_neg hb']
              exact hk9
          · obtain ⟨y6'', ⟨kv9, rfl, n9, hG9, hp9, hk9⟩, e69, e49⟩ := hw3
            rw [List.take_length] at hk9
            refine ⟨G9, e69, n9.kn, some (.int l), y6'', ⟨kv9, rfl, n9, hG9, hp9, ?_⟩, e49⟩
            rw [take_foldl hl', ht2]
            exact hk9
        · obtain ⟨y5', y6', ⟨kv6, rfl, n7, hG7, hp7, hk7⟩, e47⟩ := hw2
          rw [List.take_length] at hk7
          refine ⟨G'', e47, n7.kn, some (.int m), y5', y6', kv6, rfl, n7, hG7, hp7, ?_⟩
          rw [take_foldl hm, ht1]
          exact hk7
      · obtain ⟨y4, y5, y6, kv5, rfl, n5, hG5, hp5, hk5⟩ := hw
        rw [List.take_length] at hk5
        have hk6 : kv5.map (·.1) = (Sw.closure n (Sw.uni r t)).map keyP := hk5
        have n6 := n5.freeze p00 hG5 hp5 nt_dT
        have kT : IsT (Sw.closure n (Sw.uni r t)) (upd G' p (.dT kv5)) (.ref p) := ⟨p, kv5, rfl, upd_same, hk6⟩
        exact s_retN n6.kn (en_call (ea2 isD_ex isD_ex (EvN.ev (en_listD (ev_var (i := 2) rfl kT))) (ev_var (i := 3) rfl (Dq.int (n : Int)))) fun vs H Q E h => ⟨n, Sw.jn r t, _, Sw.jn_row R, h1, h2, Sw.nodup_closure (Sw.nodup_uni r t), fun a b => (Sw.jn_inv R S a b).symm, h⟩)
          fun p vs G7 H7 n7 h0 hG hp r2 => q p vs G7 H7 (n6.trans n7) (n6.dom p h0) hG hp r2
def spMeet (T : Tbs) : Sp := fun vs H Q E => ∃ (n : Nat) (r s : List Int), Sw.Row n r ∧ Sw.Row n s ∧ 1 ≤ n ∧ n ≤ 12 ∧ PromN T [IsE r, IsE s] (Sw.mt r s) vs H Q E
theorem ok_meet (F : Fun K "meet" "meet" sMeet f fd) (D5 : Df P w K mg base "from_behind" 5 f5 d5 ["row"] (spFromBehind T)) (D6 : Df P w K mg base "join" 7 f6 d6 ["one", "other"] (spJoin T)) :
    FnOk P w K mg base CX0 8 f fd ["one", "other"] (spMeet T) := by
  refine F.ok scMeet (fun vs H Q E h => ?_) (fun cdv A outer s H vs Q E hr h => ?_)
  · obtain ⟨n, r, s, _, _, _, _, G, k, w, _⟩ := h
    exact allR_len w
  · obtain ⟨n, r, t, R, S, h1, h2, G, k, w, q⟩ := h
    match vs, w with
    | [v, v'], ⟨w, w', _⟩ =>
      refine ⟨_, pss_one (ps_ret (pe_call D5.ok (hr.mono (by decide)) (by rfl) D5.g D5.kp D5.bd .nil pass0 (pa_cons (pe_call D6.ok (hr.mono (by decide)) (by rfl) D6.g D6.kp D6.bd .nil pass0
        (pa_cons (pe_call D5.ok (hr.mono (by decide)) (by rfl) D5.g D5.kp D5.bd .nil pass0 (pa_cons (pv 0) pa_nil)) (pa_cons (pe_call D5.ok (hr.mono (by decide)) (by rfl) D5.g D5.kp D5.bd .nil pass0 (pa_cons (pv 1) pa_nil)) pa_nil))) pa_nil))), ?_⟩
      exact s_retN k (en_call (ea1 isD_ex (EvN.ev (en_call (ea2 isD_ex isD_ex
        (EvN.ev (en_call (ea1 isD_ex (ev_var (i := 0) rfl w)) fun vs H Q E h => ⟨n, r, R, h1, h2, h⟩))
        (EvN.ev (en_call (ea1 isD_ex (ev_var (i := 1) rfl w')) fun vs H Q E h => ⟨n, t, S, h1, h2, h⟩))) fun vs H Q E h => ⟨n, r.reverse, t.reverse, Sw.rev_row R, Sw.rev_row S, h1, h2, h⟩))) fun vs H Q E h => ⟨n, Sw.jn r.reverse t.reverse, Sw.jn_row (Sw.rev_row R), h1, h2, h⟩) q
end
end Pg

set_option Elab.async false
set_option linter.all false
set_option maxRecDepth 100000
namespace Ho
open PySem PySem.Spec PySem.Calls PyProof.Rows L2 LamX NdefX Ed
open Ed.Enc (enc)
open Classical in
noncomputable def hide (S : Addr → Prop) (G : Hp) : Hp := fun a => if S a then none else G a
open Classical in
noncomputable def show_ (S : Addr → Prop) (H G : Hp) : Hp := fun a => if S a then H a else G a
theorem hide_in {S : Addr → Prop} {G : Hp} {a : Addr} (h : S a) : hide S G a = none := if_pos h
theorem hide_out {S : Addr → Prop} {G : Hp} {a : Addr} (h : ¬ S a) : hide S G a = G a := if_neg h
theorem show_in {S : Addr → Prop} {H G : Hp} {a : Addr} (h : S a) : show_ S H G a = H a := if_pos h
theorem show_out {S : Addr → Prop} {H G : Hp} {a : Addr} (h : ¬ S a) : show_ S H G a = G a := if_neg h
theorem hide_some {S : Addr → Prop} {G : Hp} {a : Addr} {o : HO} (h : hide S G a = some o) : G a = some o := by
  by_cases c : S a
  · rw [hide_in c] at h
    cases h
  · rw [hide_out c] at h
    exact h
class MonoC (R : Rp) : Prop where
  m : Mono R
instance {d : PyData} : MonoC (IsD d) := ⟨isD_ex⟩
instance {x : V} : MonoC (IsV x) := ⟨isV_ex⟩
instance {K : PySem.W.Frag} {ns : List Int} : MonoC (IsS K ns) := ⟨isS_ex⟩
instance {ps : List (Int × Int)} : MonoC (IsT ps) := ⟨isT_ex⟩
/-- a value that isn't of what is hidden -/
class Th (R : Rp) : Prop where
  t : ∀ {G : Hp} {S : Addr → Prop} {v : V}, (∀ a, S a → ∃ o, G a = some o ∧ Soft o) → R G v → R (hide S G) v
mutual
def noList : PyData → Bool
  | .none => true
  | .bool _ => true
  | .int _ => true
  | .str _ => true
  | .tuple ds => noLists ds
  | _ => false
def noLists : List PyData → Bool
  | [] => true
  | d :: ds => noList d && noLists ds
end
mutual
theorem dq_th {G : Hp} {S : Addr → Prop} (hS : ∀ a, S a → ∃ o, G a = some o ∧ Soft o) : ∀ {d : PyData} {v : V}, noList d = true → Dq G v d → Dq (hide S G) v d
  | _, _, _, .non => .non
  | _, _, _, .bl b => .bl b
  | _, _, _, .int i => .int i
  | _, _, _, .str x => .str x
  | _, _, n, .lst _ _ => by simp [noList] at n
  | _, _, n, .tup (a := a) h t => by
    have na : ¬ S a := fun s => by
      obtain ⟨o, e, q⟩ := hS a s
      rw [h] at e
      cases e
      exact q
    exact .tup (by rw [hide_out na]; exact h) (da_th hS (by simpa [noList] using n) t)
theorem da_th {G : Hp} {S : Addr → Prop} (hS : ∀ a, S a → ∃ o, G a = some o ∧ Soft o) : ∀ {ds : List PyData} {vs : List V}, noLists ds = true → DqAll G vs ds → DqAll (hide S G) vs ds
  | _, _, _, .nil => .nil
  | _, _, n, .cons h t => by
    simp only [noLists, Bool.and_eq_true] at n
    exact .cons (dq_th hS n.1 h) (da_th hS n.2 t)
end
class NoL (α : Type) [Enc α] : Prop where
  n : ∀ x : α, noList (enc x) = true
instance : NoL Int := ⟨fun x => rfl⟩
instance : NoL Bool := ⟨fun x => rfl⟩
instance {α β : Type} [Enc α] [Enc β] [NoL α] [NoL β] : NoL (α × β) := ⟨fun x => by
  show noList (.tuple [enc x.1, enc x.2]) = true
  simp [noList, noLists, NoL.n]⟩
theorem noL_all {α : Type} [Enc α] [NoL α] : ∀ xs : List α, noLists (xs.map enc) = true
  | [] => rfl
  | x :: xs => by simp [noLists, NoL.n, noL_all xs]
instance {α : Type} [Enc α] [NoL α] {x : α} : Th (IsD (enc x)) := ⟨fun hS r => dq_th hS (NoL.n x) r⟩
instance {x : V} : Th (IsV x) := ⟨fun _ r => r⟩
instance : Th (IsD .none) := ⟨fun hS r => dq_th hS rfl r⟩
class NoLs (ds : List PyData) : Prop where
  n : noLists ds = true
instance {α : Type} [Enc α] [NoL α] {xs : List α} : NoLs (xs.map enc) := ⟨noL_all xs⟩
instance : NoLs [] := ⟨rfl⟩
/-- a kind of own object -/
structure Ow where
  P : Hp → Addr → HO → Prop
  R : Rp
  mono : ∀ {G G2 : Hp} {p : Addr} {o : HO}, Ex G G2 → P G p o → P G2 p o
  soft : ∀ {G : Hp} {p : Addr} {o : HO}, P G p o → Soft o
  toR : ∀ {G : Hp} {p : Addr} {o : HO}, G p = some o → P G p o → R G (.ref p)
  monoR : Mono R
def OL (ds : List PyData) : Ow where
  P := fun G _ o => ∃ vs, o = .lst vs ∧ DqAll G vs ds
  R := IsD (.list ds)
  mono := fun e ⟨vs, h, r⟩ => ⟨vs, h, da_ex e r⟩
  soft := fun ⟨vs, h, _⟩ => by rw [h]; trivial
  toR := fun e ⟨vs, h, r⟩ => by
    subst h
    exact .lst e r
  monoR := isD_ex
def OT (ps : List (Int × Int)) : Ow where
  P := fun G _ o => ∃ kvs, o = .dT kvs ∧ kvs.map (·.1) = ps.map keyP
  R := IsT ps
  mono := fun e ⟨vs, h, r⟩ => ⟨vs, h, r⟩
  soft := fun ⟨vs, h, _⟩ => by rw [h]; trivial
  toR := fun e ⟨vs, h, r⟩ => by
    subst h
    exact ⟨_, _, rfl, e, r⟩
  monoR := isT_ex
theorem soft_nt {o : HO} (s : Soft o) : ∀ ps, o ≠ .tbl ps := fun ps z => by
  subst z
  exact s
theorem soft_nu {o : HO} (s : Soft o) : ∀ xs, o ≠ .tup xs := fun ps z => by
  subst z
  exact s
inductive Sl where
  | un
  | im (R : Rp)
  | ow (O : Ow)
def fz : Sl → Sl
  | .un => .un
  | .im R => .im R
  | .ow O => .im O.R
def hd : Sl → Sl
  | .un => .un
  | .im R => .im R
  | .ow _ => .un
/-- the slots as they are read -/
structure SatI (Γ : List Sl) (σ : L2.St) (G : Hp) : Prop where
  len : σ.length = Γ.length
  mo : ∀ (i : Nat) (R : Rp), Γ[i]? = some (.im R) → Mono R
  at_ : ∀ (i : Nat) (R : Rp), Γ[i]? = some (.im R) → ∃ v, σ[i]? = some (some v) ∧ R G v
theorem SatI.var {Γ : List Sl} {σ : L2.St} {G : Hp} {T : Tbs} {R : Rp} (s : SatI Γ σ G) (i : Nat) (h : Γ[i]? = some (.im R) := by rfl) : EvR T (tVar i) σ G R := by
  obtain ⟨v, e, r⟩ := s.at_ i R h
  exact ev_var e r
theorem SatI.ex {Γ : List Sl} {σ : L2.St} {G G2 : Hp} (s : SatI Γ σ G) (e : Ex G G2) : SatI Γ σ G2 := ⟨s.len, s.mo, fun i R h => (s.at_ i R h).elim fun v ⟨q, r⟩ => ⟨v, q, (s.mo i R h).ex e r⟩⟩
structure Sat (T : Tbs) (G0 H0 F : Hp) (Γ : List Sl) (σ : L2.St) (G H : Hp) : Prop where
  nx : Nx T G0 H0 G H
  fl : Ex F G
  im : SatI Γ σ G
  ow : ∀ (i : Nat) (O : Ow), Γ[i]? = some (.ow O) → ∃ p o, σ[i]? = some (some (.ref p)) ∧ H0 p = none ∧ G p = none ∧ H p = some o ∧ O.P G p o
  sep : ∀ (i j : Nat) (O O' : Ow) (p : Addr), Γ[i]? = some (.ow O) → Γ[j]? = some (.ow O') → σ[i]? = some (some (.ref p)) → σ[j]? = some (some (.ref p)) → i = j
def Owned (Γ : List Sl) (σ : L2.St) (a : Addr) : Prop := ∃ (i : Nat) (O : Ow), Γ[i]? = some (Sl.ow O) ∧ σ[i]? = some (some (V.ref a))
section
variable {T : Tbs} {K : PySem.W.Frag} {σ σ' : L2.St} {G0 H0 F G H G2 H2 : Hp} {Γ Γ' : List Sl} {O : Ow} {R : Rp} {p : Addr} {o o' : HO} {v : V} {i : Nat}
theorem Sat.kn (s : Sat T G0 H0 F Γ σ G H) : Kn T G H := s.nx.kn
theorem Sat.owned (s : Sat T G0 H0 F Γ σ G H) {a : Addr} (h : Owned Γ σ a) : H0 a = none ∧ G a = none ∧ ∃ o, H a = some o ∧ Soft o := by
  obtain ⟨i, O, h1, h2⟩ := h
  obtain ⟨p, o, e, z0, z1, z2, z3⟩ := s.ow i O h1
  rw [h2] at e
  cases e
  exact ⟨z0, z1, o, z2, O.soft z3⟩
theorem map_hd : (Γ.map hd)[i]? = some (.im R) → Γ[i]? = some (.im R) := by
  rw [List.getElem?_map]
  intro h
  obtain ⟨x, e, q⟩ := Option.map_eq_some_iff.mp h
  cases x with
  | un => cases q
  | im R' => rw [e]; exact congrArg some q
  | ow O => cases q
theorem SatI.hd (s : SatI Γ σ G) : SatI (Γ.map hd) σ G := ⟨by rw [List.length_map]; exact s.len, fun i R h => s.mo i R (map_hd h), fun i R h => s.at_ i R (map_hd h)⟩
theorem Sat.hdI (s : Sat T G0 H0 F Γ σ G H) : SatI (Γ.map Ho.hd) σ G := s.im.hd
noncomputable abbrev fzG (Γ : List Sl) (σ : L2.St) (G H : Hp) : Hp := show_ (Owned Γ σ) H G
noncomputable abbrev thG (Γ : List Sl) (σ : L2.St) (G : Hp) : Hp := hide (Owned Γ σ) G
theorem fz_in {a : Addr} (h : Owned Γ σ a) : fzG Γ σ G H a = H a := show_in h
theorem fz_out {a : Addr} (h : ¬ Owned Γ σ a) : fzG Γ σ G H a = G a := show_out h
theorem th_in {a : Addr} (h : Owned Γ σ a) : thG Γ σ G a = none := hide_in h
theorem th_out {a : Addr} (h : ¬ Owned Γ σ a) : thG Γ σ G a = G a := hide_out h
theorem Sat.fz_ex (s : Sat T G0 H0 F Γ σ G H) : Ex G (fzG Γ σ G H) := fun a o e => by
  by_cases c : Owned Γ σ a
  · rw [(s.owned c).2.1] at e
    cases e
  · rw [fz_out c]
    exact e
theorem Sat.fz_kn (s : Sat T G0 H0 F Γ σ G H) : Kn T (fzG Γ σ G H) H := ⟨fun a o e => by
  by_cases c : Owned Γ σ a
  · rw [fz_in c] at e
    exact e
  · rw [fz_out c] at e
    exact s.kn.le a o e, fun b ps e => by
  by_cases c : Owned Γ σ b
  · rw [fz_in c] at e
    obtain ⟨_, _, o, q, r⟩ := s.owned c
    rw [q] at e
    exact soft_nt r ps (Option.some.inj e)
  · rw [fz_out c] at e
    exact s.kn.nt b ps e, s.kn.tb⟩
theorem Sat.fzI (s : Sat T G0 H0 F Γ σ G H) : SatI (Γ.map fz) σ (fzG Γ σ G H) := ⟨by rw [List.length_map]; exact s.im.len, fun i R h => by
  rw [List.getElem?_map] at h
  obtain ⟨x, e, q⟩ := Option.map_eq_some_iff.mp h
  cases x with
  | un => cases q
  | im R' =>
    cases q
    exact s.im.mo i R e
  | ow O =>
    cases q
    exact O.monoR, fun i R h => by
  rw [List.getElem?_map] at h
  obtain ⟨x, e, q⟩ := Option.map_eq_some_iff.mp h
  cases x with
  | un => cases q
  | im R' =>
    cases q
    obtain ⟨v, e1, r⟩ := s.im.at_ i R e
    exact ⟨v, e1, (s.im.mo i R e).ex s.fz_ex r⟩
  | ow O =>
    cases q
    obtain ⟨p, o, e1, z0, z1, z2, z3⟩ := s.ow i O e
    exact ⟨_, e1, O.toR (by rw [fz_in ⟨i, O, e, e1⟩]; exact z2) (O.mono s.fz_ex z3)⟩⟩
/-- all that is own is known from now on -/
theorem Sat.fz_nx (s : Sat T G0 H0 F Γ σ G H) : Nx T G0 H0 (fzG Γ σ G H) H :=
  ⟨s.nx.ex.trans s.fz_ex, s.fz_kn, s.nx.keep, s.nx.dom, fun a e => by
    by_cases c : Owned Γ σ a
    · exact .inr (.inl (s.owned c).1)
    · rw [fz_out c]
      exact s.nx.sep a e, s.nx.tbs⟩
/-- a step that changes nothing of its own -/
theorem Sat.step (s : Sat T G0 H0 F Γ σ G H) (n : Nx T G H G2 H2) : Sat T G0 H0 F Γ σ G2 H2 :=
  ⟨s.nx.trans n, s.fl.trans n.ex, s.im.ex n.ex, fun i O h => by
    obtain ⟨p, o, e, z0, z1, z2, z3⟩ := s.ow i O h
    obtain ⟨y1, y2⟩ := stays n z1 z2 (soft_nt (O.soft z3)) (soft_nu (O.soft z3))
    exact ⟨p, o, e, z0, y1, y2, O.mono n.ex z3⟩, s.sep⟩
theorem Sat.th_nx (s : Sat T G0 H0 F Γ σ G H) (n : Nx T (fzG Γ σ G H) H G2 H2) : Nx T G H (thG Γ σ G2) H2 :=
  ⟨fun a o e => by
    have c : ¬ Owned Γ σ a := fun c => by
      rw [(s.owned c).2.1] at e
      cases e
    rw [th_out c]
    exact n.ex a o (by rw [fz_out c]; exact e), ⟨fun a o e => n.kn.le a o (hide_some e), fun b ps e => n.kn.nt b ps (hide_some e), n.kn.tb⟩, n.keep, n.dom, fun a e => by
    by_cases c : Owned Γ σ a
    · exact .inl (th_in c)
    · rw [th_out c]
      exact n.sep a (by rw [fz_out c]; exact e), n.tbs⟩
theorem Sat.th_soft (s : Sat T G0 H0 F Γ σ G H) (n : Nx T (fzG Γ σ G H) H G2 H2) : ∀ a, Owned Γ σ a → ∃ o, G2 a = some o ∧ Soft o := fun a c => by
  obtain ⟨_, _, o, e, q⟩ := s.owned c
  exact ⟨o, n.ex a o (by rw [fz_in c]; exact e), q⟩
theorem Sat.thaw (s : Sat T G0 H0 F Γ σ G H) (n : Nx T (fzG Γ σ G H) H G2 H2) : Sat T G0 H0 F Γ σ (thG Γ σ G2) H2 := s.step (s.th_nx n)
theorem get_set {α : Type} {l : List α} {i j : Nat} {x y : α} (h : (l.set i x)[j]? = some y) : (i = j ∧ x = y ∧ i < l.length) ∨ (i ≠ j ∧ l[j]? = some y) := by
  by_cases e : i = j
  · subst e
    have hl : i < l.length := by
      have := (List.getElem?_eq_some_iff.mp h).1
      rw [List.length_set] at this
      exact this
    rw [List.getElem?_set_self hl] at h
    exact .inl ⟨rfl, Option.some.inj h, hl⟩
  · rw [List.getElem?_set_ne e] at h
    exact .inr ⟨e, h⟩
theorem SatI.set (s : SatI Γ σ G) (m : Mono R) (r : R G v) : SatI (Γ.set i (.im R)) (σ.set i (some v)) G := ⟨by rw [List.length_set, List.length_set]; exact s.len, fun j R' h => by
    rcases get_set h with ⟨_, e, _⟩ | ⟨_, e⟩
    · cases e
      exact m
    · exact s.mo j R' e, fun j R' h => by
    rcases get_set h with ⟨e1, e, hl⟩ | ⟨e1, e⟩
    · subst e1
      cases e
      exact ⟨v, by rw [List.getElem?_set_self (by rw [s.len]; exact hl)], r⟩
    · obtain ⟨u, q, r'⟩ := s.at_ j R' e
      exact ⟨u, by rw [List.getElem?_set_ne e1]; exact q, r'⟩⟩
theorem SatI.setUn {x : Option V} (s : SatI Γ σ G) : SatI (Γ.set i .un) (σ.set i x) G := ⟨by rw [List.length_set, List.length_set]; exact s.len, fun j R' h => by
    rcases get_set h with ⟨_, e, _⟩ | ⟨_, e⟩
    · cases e
    · exact s.mo j R' e, fun j R' h => by
    rcases get_set h with ⟨e1, e, hl⟩ | ⟨e1, e⟩
    · cases e
    · obtain ⟨u, q, r'⟩ := s.at_ j R' e
      exact ⟨u, by rw [List.getElem?_set_ne e1]; exact q, r'⟩⟩
theorem SatI.setOw {x : Option V} (s : SatI Γ σ G) : SatI (Γ.set i (.ow O)) (σ.set i x) G := ⟨by rw [List.length_set, List.length_set]; exact s.len, fun j R' h => by
    rcases get_set h with ⟨_, e, _⟩ | ⟨_, e⟩
    · cases e
    · exact s.mo j R' e, fun j R' h => by
    rcases get_set h with ⟨e1, e, hl⟩ | ⟨e1, e⟩
    · cases e
    · obtain ⟨u, q, r'⟩ := s.at_ j R' e
      exact ⟨u, by rw [List.getElem?_set_ne e1]; exact q, r'⟩⟩
theorem SatI.upOw {O' : Ow} (s : SatI Γ σ G) : SatI (Γ.set i (.ow O')) σ G := ⟨by rw [List.length_set]; exact s.len, fun j R' h => by
    rcases get_set h with ⟨_, e, _⟩ | ⟨_, e⟩
    · cases e
    · exact s.mo j R' e, fun j R' h => by
    rcases get_set h with ⟨e1, e, hl⟩ | ⟨e1, e⟩
    · cases e
    · exact s.at_ j R' e⟩
theorem Sat.setIm (s : Sat T G0 H0 F Γ σ G H) (m : Mono R) (r : R G v) : Sat T G0 H0 F (Γ.set i (.im R)) (σ.set i (some v)) G H :=
  ⟨s.nx, s.fl, s.im.set m r, fun j O h => by
    rcases get_set h with ⟨_, e, _⟩ | ⟨e1, e⟩
    · cases e
    · obtain ⟨p, o, q, z⟩ := s.ow j O e
      exact ⟨p, o, by rw [List.getElem?_set_ne e1]; exact q, z⟩, fun j k O O' p hj hk ej ek => by
    rcases get_set hj with ⟨_, e, _⟩ | ⟨n1, e1⟩
    · cases e
    rcases get_set hk with ⟨_, e, _⟩ | ⟨n2, e2⟩
    · cases e
    rw [List.getElem?_set_ne n1] at ej
    rw [List.getElem?_set_ne n2] at ek
    exact s.sep j k O O' p e1 e2 ej ek⟩
theorem Sat.setOw (s : Sat T G0 H0 F Γ σ G H) (h0 : H0 p = none) (hG : G p = none) (hp : H p = some o) (hP : O.P G p o) (fr : ¬ Owned Γ σ p) : Sat T G0 H0 F (Γ.set i (.ow O)) (σ.set i (some (.ref p))) G H :=
  ⟨s.nx, s.fl, s.im.setOw, fun j O' h => by
    rcases get_set h with ⟨e1, e, hl⟩ | ⟨e1, e⟩
    · subst e1
      cases e
      exact ⟨p, o, by rw [List.getElem?_set_self (by rw [s.im.len]; exact hl)], h0, hG, hp, hP⟩
    · obtain ⟨p, o, q, z⟩ := s.ow j O' e
      exact ⟨p, o, by rw [List.getElem?_set_ne e1]; exact q, z⟩, fun j k O1 O2 q hj hk ej ek => by
    rcases get_set hj with ⟨d1, e1, l1⟩ | ⟨n1, e1⟩
    · subst d1
      rw [List.getElem?_set_self (by rw [s.im.len]; exact l1)] at ej
      cases ej
      rcases get_set hk with ⟨d2, e2, _⟩ | ⟨n2, e2⟩
      · exact d2
      · rw [List.getElem?_set_ne n2] at ek
        exact absurd ⟨k, O2, e2, ek⟩ fr
    · rw [List.getElem?_set_ne n1] at ej
      rcases get_set hk with ⟨d2, e2, l2⟩ | ⟨n2, e2⟩
      · subst d2
        rw [List.getElem?_set_self (by rw [s.im.len]; exact l2)] at ek
        cases ek
        exact absurd ⟨j, O1, e1, ej⟩ fr
      · rw [List.getElem?_set_ne n2] at ek
        exact s.sep j k O1 O2 q e1 e2 ej ek⟩
/-- the own object of a slot is changed -/
theorem Sat.mut {O' : Ow} (s : Sat T G0 H0 F Γ σ G H) (hi : Γ[i]? = some (.ow O)) (hs : σ[i]? = some (some (.ref p))) (hP : O'.P G p o') : Sat T G0 H0 F (Γ.set i (.ow O')) σ G (upd H p o') := by
  obtain ⟨p', o, e, z0, z1, z2, z3⟩ := s.ow i O hi
  rw [hs] at e
  cases e
  refine ⟨s.nx.mut z0 z1 z2 (O.soft z3), s.fl, s.im.upOw, fun j O1 h => ?_, fun j k O1 O2 q hj hk ej ek => ?_⟩
  · rcases get_set h with ⟨e1, e, hl⟩ | ⟨e1, e⟩
    · subst e1
      cases e
      exact ⟨p, o', hs, z0, z1, upd_same, hP⟩
    · obtain ⟨q, u, q1, y0, y1, y2, y3⟩ := s.ow j O1 e
      have ne : q ≠ p := fun z => by
        subst z
        exact e1 (s.sep i j O O1 q hi e hs q1)
      exact ⟨q, u, q1, y0, y1, by rw [upd_ne ne]; exact y2, y3⟩
  · have lk : ∀ {j : Nat} {O1 : Ow}, (Γ.set i (.ow O'))[j]? = some (.ow O1) → ∃ O2, Γ[j]? = some (.ow O2) := fun {j O1} h => by
      rcases get_set h with ⟨e1, e, hl⟩ | ⟨e1, e⟩
      · subst e1
        exact ⟨O, hi⟩
      · exact ⟨O1, e⟩
    obtain ⟨A, a⟩ := lk hj
    obtain ⟨B, b⟩ := lk hk
    exact s.sep j k A B q a b ej ek
/-- an own object is known from now on -/
theorem Sat.freeze (s : Sat T G0 H0 F Γ σ G H) (i : Nat) (hi : Γ[i]? = some (.ow O)) : ∃ G2, Sat T G0 H0 F (Γ.set i (.im O.R)) σ G2 H := by
  obtain ⟨p, o, e, z0, z1, z2, z3⟩ := s.ow i O hi
  have ex : Ex G (upd G p o) := Ex.new z1
  refine ⟨upd G p o, s.nx.freeze z0 z1 z2 (soft_nt (O.soft z3)), s.fl.trans ex, ⟨by rw [List.length_set]; exact s.im.len, fun j R' h => ?_, fun j R' h => ?_⟩, fun j O1 h => ?_, fun j k O1 O2 q hj hk ej ek => ?_⟩
  · rcases get_set h with ⟨_, e, _⟩ | ⟨_, e⟩
    · cases e
      exact O.monoR
    · exact s.im.mo j R' e
  · rcases get_set h with ⟨e1, e2, hl⟩ | ⟨e1, e2⟩
    · subst e1
      cases e2
      exact ⟨_, e, O.toR upd_same (O.mono ex z3)⟩
    · obtain ⟨u, q, r'⟩ := s.im.at_ j R' e2
      exact ⟨u, q, (s.im.mo j R' e2).ex ex r'⟩
  · rcases get_set h with ⟨e1, e2, hl⟩ | ⟨e1, e2⟩
    · cases e2
    · obtain ⟨q, u, q1, y0, y1, y2, y3⟩ := s.ow j O1 e2
      have ne : q ≠ p := fun z => by
        subst z
        exact e1 (s.sep i j O O1 q hi e2 e q1)
      exact ⟨q, u, q1, y0, by rw [upd_ne ne]; exact y1, y2, O1.mono ex y3⟩
  · rcases get_set hj with ⟨_, e, _⟩ | ⟨n1, e1⟩
    · cases e
    rcases get_set hk with ⟨_, e, _⟩ | ⟨n2, e2⟩
    · cases e
    exact s.sep j k O1 O2 q e1 e2 ej ek
/-- less is told -/
inductive Wk : List Sl → List Sl → Prop
  | nil : Wk [] []
  | un {S : Sl} {A B : List Sl} : Wk A B → Wk (S :: A) (.un :: B)
  | same {S : Sl} {A B : List Sl} : Wk A B → Wk (S :: A) (S :: B)
  | im {R R' : Rp} {A B : List Sl} : Mono R' → (∀ G v, R G v → R' G v) → Wk A B → Wk (.im R :: A) (.im R' :: B)
  | eqD {d e : PyData} {A B : List Sl} : d = e → Wk A B → Wk (.im (IsD d) :: A) (.im (IsD e) :: B)
  | eqE {α : Type} [Enc α] {x y : α} {A B : List Sl} : x = y → Wk A B → Wk (.im (IsD (enc x)) :: A) (.im (IsD (enc y)) :: B)
  | eqL {ds es : List PyData} {A B : List Sl} : ds = es → Wk A B → Wk (.ow (OL ds) :: A) (.ow (OL es) :: B)
  | eqO {O O' : Ow} {A B : List Sl} : O = O' → Wk A B → Wk (.ow O :: A) (.ow O' :: B)
  | eqT {ps qs : List (Int × Int)} {A B : List Sl} : ps = qs → Wk A B → Wk (.ow (OT ps) :: A) (.ow (OT qs) :: B)
theorem Wk.get : ∀ {A B : List Sl}, Wk A B → A.length = B.length ∧ ∀ (i : Nat) (S : Sl), B[i]? = some S → S = .un ∨ A[i]? = some S ∨ ∃ R R', A[i]? = some (.im R) ∧ S = .im R' ∧ Mono R' ∧ ∀ G v, R G v → R' G v
  | _, _, .nil => ⟨rfl, fun i S h => by simp at h⟩
  | _, _, .un w => ⟨congrArg Nat.succ w.get.1, fun i S h => by
    cases i with
    | zero => exact .inl (Option.some.inj h).symm
    | succ i => exact w.get.2 i S h⟩
  | _, _, .same w => ⟨congrArg Nat.succ w.get.1, fun i S h => by
    cases i with
    | zero => exact .inr (.inl h)
    | succ i => exact w.get.2 i S h⟩
  | _, _, .im m f w => ⟨congrArg Nat.succ w.get.1, fun i S h => by
    cases i with
    | zero => exact .inr (.inr ⟨_, _, rfl, (Option.some.inj h).symm, m, f⟩)
    | succ i => exact w.get.2 i S h⟩
  | _, _, .eqD e w => ⟨congrArg Nat.succ w.get.1, fun i S h => by
    subst e
    cases i with
    | zero => exact .inr (.inl h)
    | succ i => exact w.get.2 i S h⟩
  | _, _, @Wk.eqE _ _ _ _ _ _ e w => ⟨congrArg Nat.succ w.get.1, fun i S h => by
    subst e
    cases i with
    | zero => exact .inr (.inl h)
    | succ i => exact w.get.2 i S h⟩
  | _, _, .eqL e w => ⟨congrArg Nat.succ w.get.1, fun i S h => by
    subst e
    cases i with
    | zero => exact .inr (.inl h)
    | succ i => exact w.get.2 i S h⟩
  | _, _, .eqO e w => ⟨congrArg Nat.succ w.get.1, fun i S h => by
    subst e
    cases i with
    | zero => exact .inr (.inl h)
    | succ i => exact w.get.2 i S h⟩
  | _, _, .eqT e w => ⟨congrArg Nat.succ w.get.1, fun i S h => by
    subst e
    cases i with
    | zero => exact .inr (.inl h)
    | succ i => exact w.get.2 i S h⟩
theorem Wk.refl : ∀ (A : List Sl), Wk A A
  | [] => .nil
  | _ :: A => .same (Wk.refl A)
theorem SatI.weak (s : SatI Γ σ G) (w : Wk Γ Γ') : SatI Γ' σ G := by
  obtain ⟨hl, hg⟩ := w.get
  refine ⟨by rw [s.len, hl], fun i R h => ?_, fun i R h => ?_⟩
  · rcases hg i _ h with e | e | ⟨_, R', _, e2, m, _⟩
    · cases e
    · exact s.mo i R e
    · cases e2
      exact m
  · rcases hg i _ h with e | e | ⟨R1, R', e1, e2, m, f⟩
    · cases e
    · exact s.at_ i R e
    · cases e2
      obtain ⟨v, q, r⟩ := s.at_ i R1 e1
      exact ⟨v, q, f G v r⟩
theorem Sat.weak (s : Sat T G0 H0 F Γ σ G H) (w : Wk Γ Γ') : Sat T G0 H0 F Γ' σ G H := by
  obtain ⟨hl, hg⟩ := w.get
  have lk : ∀ {j : Nat} {O1 : Ow}, Γ'[j]? = some (.ow O1) → Γ[j]? = some (.ow O1) := fun {j O1} h => by
    rcases hg j _ h with e | e | ⟨_, R', _, e2, m, _⟩
    · cases e
    · exact e
    · cases e2
  exact ⟨s.nx, s.fl, s.im.weak w, fun i O h => s.ow i O (lk h), fun i j O O' p hi hj ei ej => s.sep i j O O' p (lk hi) (lk hj) ei ej⟩
theorem Sat.cast (s : Sat T G0 H0 F Γ σ G H) (e : Γ = Γ') : Sat T G0 H0 F Γ' σ G H := e ▸ s
theorem Sat.floor {F' : Hp} (s : Sat T G0 H0 F Γ σ G H) (e : Ex F' G) : Sat T G0 H0 F' Γ σ G H := ⟨s.nx, e, s.im, s.ow, s.sep⟩
end
end Ho

set_option Elab.async false
set_option linter.all false
set_option maxRecDepth 100000
namespace Ho
open PySem PySem.Spec PySem.Calls PyProof.Rows L2 LamX NdefX Ed
open Ed.Enc (enc)
/-- a new list of such data -/
def EvND (T : Tbs) (te : TE) (σ : L2.St) (G : Hp) (ds : List PyData) : Prop := ∀ H, Kn T G H → ∀ Q : VK,
  (∀ p vs G2 H2, Nx T G H G2 H2 → H p = none → G2 p = none → H2 p = some (.lst vs) → DqAll G2 vs ds → Q (.ref p) H2) → te σ H Q
/-- a new object -/
def EvO' (T : Tbs) (te : TE) (σ : L2.St) (G : Hp) (O : Ow) : Prop := ∀ H, Kn T G H → ∀ Q : VK,
  (∀ p o G2 H2, Nx T G H G2 H2 → H p = none → G2 p = none → H2 p = some o → O.P G2 p o → Q (.ref p) H2) → te σ H Q
theorem EvND.o {T : Tbs} {te : TE} {σ : L2.St} {G : Hp} {ds : List PyData} (h : EvND T te σ G ds) : EvO' T te σ G (OL ds) := fun H k Q q => h H k Q fun p vs G2 H2 n a b c d => q p _ G2 H2 n a b c ⟨vs, rfl, d⟩
theorem EvO'.r {T : Tbs} {te : TE} {σ : L2.St} {G : Hp} {O : Ow} (h : EvO' T te σ G O) : EvR T te σ G O.R := fun H k Q q => h H k Q fun p o G2 H2 n h0 hG hp r =>
  q (.ref p) _ H2 (n.freeze h0 hG hp (soft_nt (O.soft r))) (O.toR upd_same (O.mono (Ex.new hG) r))
theorem EvND.d {T : Tbs} {te : TE} {σ : L2.St} {G : Hp} {ds : List PyData} (h : EvND T te σ G ds) : EvR T te σ G (IsD (.list ds)) := h.o.r
theorem EvND.to {T : Tbs} {te : TE} {σ : L2.St} {G : Hp} {ds es : List PyData} (h : EvND T te σ G ds) (e : ds = es) : EvND T te σ G es := e ▸ h
/-- how a call ends -/
inductive Out where
  | val (R : Rp)
  | new (O : Ow)
  | exc (C : Addr)
  | excF (C : Addr) (f : Str) (R : Rp)
def Wish (T : Tbs) (G H : Hp) (Q : VK) (E : XK) : Out → Prop
  | .val R => ∀ v G2 H2, Nx T G H G2 H2 → R G2 v → Q v H2
  | .new O => ∀ p o G2 H2, Nx T G H G2 H2 → H p = none → G2 p = none → H2 p = some o → O.P G2 p o → Q (.ref p) H2
  | .exc C => ∀ G2 H2, Nx T G H G2 H2 → E (.ref C) none H2
  | .excF C f R => ∀ v d G2 H2, Nx T G H G2 H2 → R G2 v → H d = none → G2 d = none → H2 d = some (.xd [(f, v)]) → E (.ref C) (some d) H2
def PromO (T : Tbs) (Rs : List Rp) (out : Out) : Sp := fun vs H Q E => ∃ G, Kn T G H ∧ AllR G vs Rs ∧ Wish T G H Q E out
/-- a def's promise: for every b of which pre holds -/
def Sp1 (T : Tbs) {β : Type} (pre : β → Prop) (Rs : β → List Rp) (out : β → Out) : Sp := fun vs H Q E => ∃ b, pre b ∧ PromO T (Rs b) (out b) vs H Q E
def G0s (Rs : List Rp) (n : Nat) : List Sl := Rs.map .im ++ List.replicate n .un
theorem monoA_get : ∀ {Rs : List Rp}, MonoA Rs → ∀ (i : Nat) (R : Rp), Rs[i]? = some R → Mono R
  | [], _, i, R, h => by simp at h
  | R :: Rs, m, 0, R', h => by
    cases h
    exact m.1
  | R :: Rs, m, i + 1, R', h => monoA_get m.2 i R' h
theorem allR_get {G : Hp} : ∀ {Rs : List Rp} {vs : List V}, AllR G vs Rs → ∀ (i : Nat) (R : Rp), Rs[i]? = some R → ∃ v, vs[i]? = some v ∧ R G v
  | [], _, _, i, R, h => by simp at h
  | R :: Rs, v :: vs, m, 0, R', h => by
    cases h
    exact ⟨v, rfl, m.1⟩
  | R :: Rs, v :: vs, m, i + 1, R', h => allR_get m.2 i R' h
  | _ :: _, [], h, _, _, _ => h.elim
theorem satI_start {N : List Str} {vs : List V} {Rs : List Rp} {G : Hp} (m : MonoA Rs) (w : AllR G vs Rs) : SatI (G0s Rs (N.length - Rs.length)) (L2.start N vs) G := by
  have hl := allR_len w
  have key : ∀ (i : Nat) (R : Rp), (G0s Rs (N.length - Rs.length))[i]? = some (.im R) → Rs[i]? = some R := fun i R h => by
    unfold G0s at h
    by_cases hi : i < (Rs.map Sl.im).length
    · rw [List.getElem?_append_left hi, List.getElem?_map] at h
      obtain ⟨x, e, q⟩ := Option.map_eq_some_iff.mp h
      cases q
      exact e
    · rw [List.getElem?_append_right (by omega)] at h
      obtain ⟨_, z⟩ := List.getElem?_eq_some_iff.mp h
      rw [List.getElem_replicate] at z
      cases z
  refine ⟨?_, fun i R h => monoA_get m i R (key i R h), fun i R h => ?_⟩
  · unfold L2.start G0s
    rw [List.length_append, List.length_map, List.length_replicate, List.length_append, List.length_map, List.length_replicate, hl]
  · obtain ⟨v, e, r⟩ := allR_get w i R (key i R h)
    refine ⟨v, ?_, r⟩
    unfold L2.start
    have hi : i < vs.length := (List.getElem?_eq_some_iff.mp e).1
    rw [List.getElem?_append_left (by rw [List.length_map]; exact hi), List.getElem?_map, e] <;> rfl
theorem g0s_now {Rs : List Rp} {n : Nat} {i : Nat} {O : Ow} : (G0s Rs n)[i]? ≠ some (.ow O) := fun h => by
  unfold G0s at h
  rcases List.mem_append.mp (List.mem_of_getElem? h) with z | z
  · obtain ⟨R, _, e⟩ := List.mem_map.mp z
    cases e
  · have := List.eq_of_mem_replicate z
    cases this
theorem sat_start {T : Tbs} {N : List Str} {vs : List V} {Rs : List Rp} {G H : Hp} (k : Kn T G H) (m : MonoA Rs) (w : AllR G vs Rs) : Sat T G H G (G0s Rs (N.length - Rs.length)) (L2.start N vs) G H :=
  ⟨Nx.refl k, Ex.refl G, satI_start m w, fun i O h => absurd h g0s_now, fun i j O O' p h => absurd h g0s_now⟩
section
variable {P : Program} {w : World} {K : PySem.W.Frag} {mg : Str → Option Value} {base : Heap} {T : Tbs}
class MonoAC (Rs : List Rp) : Prop where
  m : MonoA Rs
instance : MonoAC [] := ⟨True.intro⟩
instance {R : Rp} {Rs : List Rp} [MonoC R] [MonoAC Rs] : MonoAC (R :: Rs) := ⟨⟨MonoC.m, MonoAC.m⟩⟩
theorem def_ok {β : Type} {pre : β → Prop} {Rs : β → List Rp} {out : β → Out} {x qual : Str} {st : Stmt} {f : Addr} {fd : FuncData} {N ps : List Str} {k : Nat} (F : Fun K x qual st f fd) (S : FnScope N ps (defScope st)) (hl : ∀ b, (Rs b).length = ps.length) (hm : ∀ b, MonoA (Rs b))
    (body : ∀ b, pre b → ∀ (cdv : Value) (A : Around) (outer : List Env) (s : Shared) (G H : Hp) (σ : L2.St) (Q : VK) (E : XK), Room k (A.deeper (envOfC qual (defScope st) s.heap.objs.size f cdv)) → Wish T G H Q E (out b) → Sat T G H G (G0s (Rs b) (N.length - ps.length)) σ G H →
      ∃ t, PSs (cxOf CX0 P w K mg base N qual (defScope st) f cdv A outer s H E).nox (defBody st) t ∧ t { nx := fun _ H' => Q .non H', rt := Q } σ H) : FnOk P w K mg base CX0 (k + 1) f fd ps (Sp1 T pre Rs out) := by
  refine F.ok S (fun vs H Q E h => ?_) (fun cdv A outer s H vs Q E hr h => ?_)
  · obtain ⟨b, _, G, _, w, _⟩ := h
    rw [allR_len w, hl]
  · obtain ⟨b, hb, G, k, w, q⟩ := h
    have z := sat_start (N := N) k (hm b) w
    rw [hl b] at z
    exact body b hb cdv A outer s G H _ Q E hr q z
theorem def_okX {β : Type} {pre : β → Prop} {Rs : β → List Rp} {out : β → Out} {x qual : Str} {st : Stmt} {f : Addr} {fd : FuncData} {N ps : List Str} {k : Nat} (F : Fun K x qual st f fd) (S : FnScope N ps (defScope st)) (hl : ∀ b, (Rs b).length = ps.length) (hm : ∀ b, MonoA (Rs b))
    (body : ∀ b, pre b → ∀ (cdv : Value) (A : Around) (outer : List Env) (s : Shared) (G H : Hp) (σ : L2.St) (Q : VK) (E : XK), Room k (A.deeper (envOfC qual (defScope st) s.heap.objs.size f cdv)) → Wish T G H Q E (out b) → Sat T G H G (G0s (Rs b) (N.length - ps.length)) σ G H →
      ∃ t, PSs (cxOf (L2.CX P w) P w K mg base N qual (defScope st) f cdv A outer s H E) (defBody st) t ∧ t { nx := fun _ H' => Q .non H', rt := Q } σ H) : FnOk P w K mg base (L2.CX P w) (k + 1) f fd ps (Sp1 T pre Rs out) := by
  refine F.okX S (fun vs H Q E h => ?_) (fun cdv A outer s H vs Q E hr h => ?_)
  · obtain ⟨b, _, G, _, w, _⟩ := h
    rw [allR_len w, hl]
  · obtain ⟨b, hb, G, k, w, q⟩ := h
    have z := sat_start (N := N) k (hm b) w
    rw [hl b] at z
    exact body b hb cdv A outer s G H _ Q E hr q z
end
section
variable {T : Tbs} {K : PySem.W.Frag} {σ : L2.St} {G0 H0 F G H : Hp} {Γ Γ' : List Sl} {O : Ow} {R R' : Rp} {i j : Nat} {te : TE} {ta : TA} {D : Ends} {t : TT} {tu tw tb : TS} {ds es : List PyData} {Q : VK} {E : XK}
theorem ev_call1 {β : Type} {pre : β → Prop} {Rs : β → List Rp} {out : β → Out} {E : XK} (b : β) (hb : pre b) (h : EvA T ta σ G (Rs b)) (ho : out b = .val R := by rfl) : EvR T (tCall (Sp1 T pre Rs out) [] E ta) σ G R := fun H k Q q =>
  h H k _ fun vs G1 H1 n1 r1 => by
    rw [List.append_nil]
    refine ⟨b, hb, G1, n1.kn, r1, ?_⟩
    rw [ho]
    exact fun v G2 H2 n2 r2 => q v G2 H2 (n1.trans n2) r2
theorem en_call1 {β : Type} {pre : β → Prop} {Rs : β → List Rp} {out : β → Out} {E : XK} (b : β) (hb : pre b) (h : EvA T ta σ G (Rs b)) (ho : out b = .new (OL ds) := by rfl) : EvND T (tCall (Sp1 T pre Rs out) [] E ta) σ G ds := fun H k Q q =>
  h H k _ fun vs G1 H1 n1 r1 => by
    rw [List.append_nil]
    refine ⟨b, hb, G1, n1.kn, r1, ?_⟩
    rw [ho]
    rintro p o G2 H2 n2 h0 hG hp ⟨ws, rfl, r2⟩
    exact q p ws G2 H2 (n1.trans n2) (n1.dom p h0) hG hp r2
theorem eo_call1 {β : Type} {pre : β → Prop} {Rs : β → List Rp} {out : β → Out} {E : XK} (b : β) (hb : pre b) (h : EvA T ta σ G (Rs b)) (ho : out b = .new O := by rfl) : EvO' T (tCall (Sp1 T pre Rs out) [] E ta) σ G O := fun H k Q q =>
  h H k _ fun vs G1 H1 n1 r1 => by
    rw [List.append_nil]
    refine ⟨b, hb, G1, n1.kn, r1, ?_⟩
    rw [ho]
    exact fun p o G2 H2 n2 h0 hG hp r2 => q p o G2 H2 (n1.trans n2) (n1.dom p h0) hG hp r2
theorem q_seq {a b : TS} (h : a { D with nx := b D } σ H) : tSeq a b D σ H := h
theorem st_asg [MonoC R] (s : Sat T G0 H0 F Γ σ G H) (h : ∀ {G}, SatI (Γ.map hd) σ G → EvR T te σ G R) (c : ∀ σ G H, Sat T G0 H0 F (Γ.set i (.im R)) σ G H → D.nx σ H) : tAsg te (gName i) D σ H :=
  h s.hdI H s.kn _ fun v G2 H2 n r => c _ G2 H2 ((s.step n).setIm MonoC.m r)
theorem st_asgF [MonoC R] [Th R] (s : Sat T G0 H0 F Γ σ G H) (h : ∀ {G}, SatI (Γ.map fz) σ G → EvR T te σ G R) (c : ∀ σ G H, Sat T G0 H0 F (Γ.set i (.im R)) σ G H → D.nx σ H) : tAsg te (gName i) D σ H :=
  h s.fzI H s.fz_kn _ fun v G2 H2 n r => c _ _ H2 ((s.thaw n).setIm MonoC.m (Th.t (s.th_soft n) r))
theorem Sat.fresh (s : Sat T G0 H0 F Γ σ G H) {p : Addr} (h : H p = none) : ¬ Owned Γ σ p := fun c => by
  obtain ⟨_, _, o, e, _⟩ := s.owned c
  rw [h] at e
  cases e
theorem st_asgN (s : Sat T G0 H0 F Γ σ G H) (h : ∀ {G}, SatI (Γ.map hd) σ G → EvND T te σ G ds) (c : ∀ σ G H, Sat T G0 H0 F (Γ.set i (.ow (OL ds))) σ G H → D.nx σ H) : tAsg te (gName i) D σ H :=
  h s.hdI H s.kn _ fun p vs G2 H2 n p0 hG hp r => c _ G2 H2 ((s.step n).setOw (s.nx.dom p p0) hG hp ⟨vs, rfl, r⟩ (s.fresh p0))
theorem thG_none {a : Addr} (h : G a = none) : thG Γ σ G a = none := by
  by_cases c : Owned Γ σ a
  · exact th_in c
  · rw [th_out c]
    exact h
theorem st_asgNF (s : Sat T G0 H0 F Γ σ G H) (nl : noLists ds = true) (h : ∀ {G}, SatI (Γ.map fz) σ G → EvND T te σ G ds) (c : ∀ σ G H, Sat T G0 H0 F (Γ.set i (.ow (OL ds))) σ G H → D.nx σ H) : tAsg te (gName i) D σ H :=
  h s.fzI H s.fz_kn _ fun p vs G2 H2 n p0 hG hp r => c _ _ H2 ((s.thaw n).setOw (s.nx.dom p p0) (thG_none hG) hp ⟨vs, rfl, da_th (s.th_soft n) nl r⟩ (s.fresh p0))
theorem st_asgO (s : Sat T G0 H0 F Γ σ G H) (h : ∀ {G}, SatI (Γ.map hd) σ G → EvO' T te σ G O) (c : ∀ σ G H, Sat T G0 H0 F (Γ.set i (.ow O)) σ G H → D.nx σ H) : tAsg te (gName i) D σ H :=
  h s.hdI H s.kn _ fun p o G2 H2 n p0 hG hp r => c _ G2 H2 ((s.step n).setOw (s.nx.dom p p0) hG hp r (s.fresh p0))
theorem st_drop (s : Sat T G0 H0 F Γ σ G H) (h : ∀ {G}, SatI (Γ.map fz) σ G → EvR T te σ G R) (c : ∀ G H, Sat T G0 H0 F Γ σ G H → D.nx σ H) : tDrop te D σ H :=
  h s.fzI H s.fz_kn _ fun v G2 H2 n r => c _ H2 (s.thaw n)
theorem st_ret (s : Sat T G0 H0 F Γ σ G H) (h : ∀ {G}, SatI (Γ.map fz) σ G → EvR T te σ G R) (c : Wish T G0 H0 D.rt E (.val R)) : tRet te D σ H :=
  h s.fzI H s.fz_kn _ fun v G2 H2 n r => c v G2 H2 (s.fz_nx.trans n) r
theorem st_retN (s : Sat T G0 H0 F Γ σ G H) (h : ∀ {G}, SatI (Γ.map fz) σ G → EvND T te σ G ds) (c : Wish T G0 H0 D.rt E (.new (OL ds))) : tRet te D σ H :=
  h s.fzI H s.fz_kn _ fun p vs G2 H2 n p0 hG hp r => c p _ G2 H2 (s.fz_nx.trans n) (s.nx.dom p p0) hG hp ⟨vs, rfl, r⟩
theorem st_retO (s : Sat T G0 H0 F Γ σ G H) (h : ∀ {G}, SatI (Γ.map fz) σ G → EvO' T te σ G O) (c : Wish T G0 H0 D.rt E (.new O)) : tRet te D σ H :=
  h s.fzI H s.fz_kn _ fun p vs G2 H2 n p0 hG hp r => c p _ G2 H2 (s.fz_nx.trans n) (s.nx.dom p p0) hG hp r
/-- return x, x an own object -/
theorem st_retOw (s : Sat T G0 H0 F Γ σ G H) (hi : Γ[i]? = some (.ow O)) (c : Wish T G0 H0 D.rt E (.new O)) : tRet (tVar i) D σ H := by
  obtain ⟨p, o, e, z0, z1, z2, z3⟩ := s.ow i O hi
  exact ⟨_, e, c p o G H s.nx z0 z1 z2 z3⟩
theorem st_end (s : Sat T G0 H0 F Γ σ G H) (c : Wish T G0 H0 Q E (.val (IsV .non))) : Q .non H := c _ G H s.nx rfl
theorem st_if {b : Bool} (s : Sat T G0 H0 F Γ σ G H) (h : ∀ {G}, SatI (Γ.map fz) σ G → EvT T t σ G b) (h1 : b = true → ∀ G H, Sat T G0 H0 F Γ σ G H → tu D σ H) (h2 : b = false → ∀ G H, Sat T G0 H0 F Γ σ G H → tw D σ H) : tIfS t tu tw D σ H :=
  h s.fzI H s.fz_kn _ fun G2 H2 n => by
    cases b with
    | true => exact iteT (h1 rfl _ H2 (s.thaw n))
    | false => exact iteF (h2 rfl _ H2 (s.thaw n))
theorem st_skip {b : Bool} (s : Sat T G0 H0 F Γ σ G H) (h : ∀ {G}, SatI (Γ.map fz) σ G → EvT T t σ G b) (hb : b = false) (c : ∀ G H, Sat T G0 H0 F Γ σ G H → D.nx σ H) : tIfS t tu tNext D σ H :=
  h s.fzI H s.fz_kn _ fun G2 H2 n => by
    subst hb
    exact iteF (c _ H2 (s.thaw n))
theorem st_take {b : Bool} (s : Sat T G0 H0 F Γ σ G H) (h : ∀ {G}, SatI (Γ.map fz) σ G → EvT T t σ G b) (hb : b = true) (c : ∀ G H, Sat T G0 H0 F Γ σ G H → tu D σ H) : tIfS t tu tw D σ H :=
  h s.fzI H s.fz_kn _ fun G2 H2 n => by
    subst hb
    exact iteT (c _ H2 (s.thaw n))
theorem tyV_lst {p : Addr} {vs : List V} (h : H p = some (.lst vs)) : tyV K "list" (.ref p) H := .inl ⟨rfl, vs, .inl (.inl h)⟩
theorem Sat.own (s : Sat T G0 H0 F Γ σ G H) (hi : Γ[i]? = some (.ow (OL ds))) : ∃ p vs, σ[i]? = some (some (.ref p)) ∧ G p = none ∧ H p = some (.lst vs) ∧ DqAll G vs ds := by
  obtain ⟨p, o, e, z0, z1, z2, vs, rfl, r⟩ := s.ow i _ hi
  exact ⟨p, vs, e, z1, z2, r⟩
theorem th_own (s : Sat T G0 H0 F Γ σ G H) {G2 H2 : Hp} (n : Nx T (fzG Γ σ G H) H G2 H2) {p : Addr} {vs : List V} (hi : Γ[i]? = some (.ow (OL ds))) (e : σ[i]? = some (some (.ref p))) (hp : H p = some (.lst vs)) : H2 p = some (.lst vs) := n.keep p _ hp nt_lst
theorem st_app {d : PyData} (s : Sat T G0 H0 F Γ σ G H) (hi : Γ[i]? = some (.ow (OL ds))) (hz : ds.length < 100000) (h : ∀ {G}, SatI (Γ.map hd) σ G → EvR T te σ G (IsD d)) (c : ∀ G H, Sat T G0 H0 F (Γ.set i (.ow (OL (ds ++ [d])))) σ G H → D.nx σ H) :
    tDrop (tBM K "list" rAppend (tVar i) (tCons te tNil)) D σ H := by
  obtain ⟨p, vs, e, z1, z2, r⟩ := s.own hi
  refine ⟨.ref p, e, tyV_lst z2, h s.hdI H s.kn _ fun v G2 H2 n rv => ?_⟩
  have s2 := s.step n
  obtain ⟨y1, y2⟩ := stays n z1 z2 nt_lst nu_lst
  have hl := da_len r
  refine ⟨p, vs, v, rfl, rfl, y2, Nat.lt_of_lt_of_le (show vs.length < 100000 by omega) (by decide), c G2 _ (s2.mut hi e ⟨_, rfl, da_app (da_ex n.ex r) (.cons rv .nil)⟩)⟩
theorem st_appF {d : PyData} [Th (IsD d)] (s : Sat T G0 H0 F Γ σ G H) (hi : Γ[i]? = some (.ow (OL ds))) (hz : ds.length < 100000) (h : ∀ {G}, SatI (Γ.map fz) σ G → EvR T te σ G (IsD d)) (c : ∀ G H, Sat T G0 H0 F (Γ.set i (.ow (OL (ds ++ [d])))) σ G H → D.nx σ H) :
    tDrop (tBM K "list" rAppend (tVar i) (tCons te tNil)) D σ H := by
  obtain ⟨p, vs, e, z1, z2, r⟩ := s.own hi
  refine ⟨.ref p, e, tyV_lst z2, h s.fzI H s.fz_kn _ fun v G2 H2 n rv => ?_⟩
  have s2 := s.thaw n
  have rv2 := Th.t (R := IsD d) (s.th_soft n) rv
  obtain ⟨y1, y2⟩ := stays (s.th_nx n) z1 z2 nt_lst nu_lst
  have hl := da_len r
  refine ⟨p, vs, v, rfl, rfl, y2, Nat.lt_of_lt_of_le (show vs.length < 100000 by omega) (by decide), c _ _ (s2.mut hi e ⟨_, rfl, da_app (da_ex (s.th_nx n).ex r) (.cons rv2 .nil)⟩)⟩
theorem st_ext (s : Sat T G0 H0 F Γ σ G H) (hi : Γ[i]? = some (.ow (OL ds))) (hz : ds.length + es.length < 100000) (h : ∀ {G}, SatI (Γ.map hd) σ G → EvND T te σ G es) (c : ∀ G H, Sat T G0 H0 F (Γ.set i (.ow (OL (ds ++ es)))) σ G H → D.nx σ H) :
    tDrop (tBM K "list" rExtend (tVar i) (tCons te tNil)) D σ H := by
  obtain ⟨p, vs, e, z1, z2, r⟩ := s.own hi
  refine ⟨.ref p, e, tyV_lst z2, h s.hdI H s.kn _ fun b ws G2 H2 n b0 hGb hb rv => ?_⟩
  have s2 := s.step n
  obtain ⟨y1, y2⟩ := stays n z1 z2 nt_lst nu_lst
  have hl := da_len r
  have hl2 := da_len rv
  refine ⟨p, b, vs, ws, rfl, rfl, y2, hb, Nat.le_of_lt (Nat.lt_of_lt_of_le (show vs.length + ws.length < 100000 by omega) (by decide)), c G2 _ (s2.mut hi e ⟨_, rfl, da_app (da_ex n.ex r) rv⟩)⟩
def SrcG (T : Tbs) (wi : TI) (σ : L2.St) (G : Hp) {ι : Type} (RR : ι → Rp) (xs : List ι) : Prop := ∀ H, Kn T G H → ∀ R : It → Hp → Prop,
  (∀ J G2 H2, Nx T G H G2 H2 → Walk J xs.length (fun H' => ∃ G', Ex G2 G' ∧ Ex G' H') (fun i H' v H'' => ∃ x, xs[i]? = some x ∧ ∀ G', Ex G2 G' → Kn T G' H' → ∃ G'', Nx T G' H' G'' H'' ∧ RR x G'' v) → R J H2) → wi σ H R
/-- a target, from telling to telling -/
def TgS (T : Tbs) (g : TG) {ι : Type} (RR : ι → Rp) (tg : ι → List Sl → List Sl) : Prop := ∀ {G0 H0 F : Hp} {Γ : List Sl} {σ : L2.St} {G H : Hp} {x : ι} {v : V}, Sat T G0 H0 F Γ σ G H → RR x G v → ∀ Q : L2.St → Hp → Prop, (∀ σ2, Sat T G0 H0 F (tg x Γ) σ2 G H → Q σ2 H) → g v σ H Q
theorem tgs_name {ι : Type} {RR : ι → Rp} [∀ x, MonoC (RR x)] : TgS T (gName j) RR (fun x Γ => Γ.set j (.im (RR x))) := fun s r Q q => q _ (s.setIm MonoC.m r)
theorem tgs_pair {α β : Type} [Enc α] [Enc β] {i j : Nat} : TgS T (gTup K 2 (gCons (gName i) (gCons (gName j) gNil))) (fun x : α × β => IsE x) (fun x Γ => (Γ.set i (.im (IsE x.1))).set j (.im (IsE x.2))) := fun {_ _ _ _ _ G H x v} s r Q q => by
  have r : Dq G v (.tuple [enc x.1, enc x.2]) := r
  cases r with
  | @tup a vs _ h1 h2 =>
    cases h2 with
    | cons r1 h3 =>
      cases h3 with
      | cons r2 h4 =>
        cases h4
        exact ⟨a, _, rfl, .inl (.inl (s.kn.le _ _ h1)), rfl, _, _, rfl, _, _, rfl, rfl, q _ ((s.setIm isD_ex r1).setIm isD_ex r2)⟩
abbrev Nxt (T : Tbs) (G0 H0 F : Hp) (Γ : List Sl) : L2.St → Hp → Prop := fun σ H => ∃ G, Sat T G0 H0 F Γ σ G H
theorem st_for {ι : Type} {RR : ι → Rp} {tg : ι → List Sl → List Sl} {xs : List ι} {wi : TI} {g : TG} (Γi : Nat → List Sl) (s : Sat T G0 H0 F Γ σ G H) (h : ∀ {G}, SatI (Γ.map hd) σ G → SrcG T wi σ G RR xs) (hg : TgS T g RR tg) (h0 : Wk Γ (Γi 0))
    (hs : ∀ F' i x σ G H, Ex F F' → xs[i]? = some x → Sat T G0 H0 F' (tg x (Γi i)) σ G H → tb { D with nx := Nxt T G0 H0 F' (Γi (i + 1)), ct := Nxt T G0 H0 F' (Γi (i + 1)), bk := D.nx } σ H)
    (hd : ∀ σ G H, Sat T G0 H0 F (Γi xs.length) σ G H → D.nx σ H) : tFor wi g tb D σ H := h s.hdI H s.kn _ fun J G2 H2 n w => by
  refine for_it w (fun i σ H => ∃ G, Sat T G0 H0 G2 (Γi i) σ G H) ⟨G2, ((s.step n).floor (Ex.refl G2)).weak h0⟩ (fun i σ' H' _ ⟨G', s'⟩ => ⟨G', s'.fl, s'.kn.le⟩) (fun i v σ' H' H'' hi ⟨G', s'⟩ ⟨x, hx, hy⟩ => ?_) fun σ' H' ⟨G', s'⟩ => hd _ G' _ (s'.floor ((s.fl.trans n.ex).trans s'.fl))
  obtain ⟨G'', n2, r⟩ := hy G' s'.fl s'.kn
  exact hg (s'.step n2) r _ fun σ2 s2 => hs G2 i x σ2 _ _ (s.fl.trans n.ex) hx s2
/-- a loop that may be broken off: behind it Γb c, some c -/
theorem st_forB {ι γ : Type} {RR : ι → Rp} {tg : ι → List Sl → List Sl} {xs : List ι} {wi : TI} {g : TG} (Γi : Nat → List Sl) (Γb : γ → List Sl) (s : Sat T G0 H0 F Γ σ G H) (h : ∀ {G}, SatI (Γ.map hd) σ G → SrcG T wi σ G RR xs) (hg : TgS T g RR tg) (h0 : Wk Γ (Γi 0))
    (hs : ∀ F' i x σ G H, Ex F F' → xs[i]? = some x → Sat T G0 H0 F' (tg x (Γi i)) σ G H → (∀ c σ G H, Sat T G0 H0 F' (Γb c) σ G H → D.nx σ H) → tb { D with nx := Nxt T G0 H0 F' (Γi (i + 1)), ct := Nxt T G0 H0 F' (Γi (i + 1)), bk := D.nx } σ H)
    (he : ∃ c, Wk (Γi xs.length) (Γb c)) (hd : ∀ c σ G H, Sat T G0 H0 F (Γb c) σ G H → D.nx σ H) : tFor wi g tb D σ H := by
  refine st_for Γi s h hg h0 (fun F' i x σ G H e hx s' => hs F' i x σ G H e hx s' fun c σ G H z => hd c σ G H (z.floor (e.trans z.fl))) fun σ G H s' => ?_
  obtain ⟨c, w⟩ := he
  exact hd c σ G H (s'.weak w)
/-- for j in range(..) whose ends are told of own objects -/
theorem st_forR {σ0 : L2.St} {g : TG} {tg : Int → List Sl → List Sl} {a b : Int} {wi : TI} (Γi : Nat → List Sl) (s : Sat T G0 H0 F Γ σ0 G H)
    (h : ∀ {G}, SatI (Γ.map fz) σ0 G → ∀ H, Kn T G H → ∀ R : It → Hp → Prop, (∀ J G2 H2, Nx T G H G2 H2 → Walk J (b - a).toNat (fun _ => True) (YFn fun i => .int (a + i)) → R J H2) → wi σ0 H R) (hg : TgS T g (fun x : Int => IsE x) tg) (h0 : Wk Γ (Γi 0))
    (hs : ∀ F' i σ G H, Ex F F' → i < (b - a).toNat → Sat T G0 H0 F' (tg (a + (i : Int)) (Γi i)) σ G H → tb { D with nx := Nxt T G0 H0 F' (Γi (i + 1)), ct := Nxt T G0 H0 F' (Γi (i + 1)), bk := D.nx } σ H)
    (hd : ∀ σ G H, Sat T G0 H0 F (Γi (b - a).toNat) σ G H → D.nx σ H) : tFor wi g tb D σ0 H := h s.fzI H s.fz_kn _ fun J G2 H2 n w => by
  refine for_it w (fun i σ H => ∃ G, Sat T G0 H0 (thG Γ σ0 G2) (Γi i) σ G H) ⟨_, ((s.thaw n).floor (Ex.refl _)).weak h0⟩ (fun i σ' H' _ _ => True.intro) (fun i v σ' H' H'' hi ⟨G', s'⟩ ⟨e1, e2⟩ => ?_) fun σ' H' ⟨G', s'⟩ => hd _ G' _ (s'.floor ((s.thaw n).fl.trans s'.fl))
  subst e1 e2
  exact hg s' (show IsE (a + (i : Int)) G' (.int (a + i)) from .int _) _ fun σ2 s2 => hs _ i σ2 _ _ (s.thaw n).fl hi s2
theorem rg2F {ta' tb' : TE} {a b : Int} (ha : Ev T ta' σ G a) (hb : Ev T tb' σ G b) (hr : -1000000 ≤ a ∧ a ≤ 1000000 ∧ -1000000 ≤ b ∧ b ≤ 1000000) : ∀ H, Kn T G H → ∀ R : It → Hp → Prop, (∀ J G2 H2, Nx T G H G2 H2 → Walk J (b - a).toNat (fun _ => True) (YFn fun i => .int (a + i)) → R J H2) → iRng2 (tCons ta' (tCons tb' tNil)) σ H R := fun H k R q =>
  ha H k _ fun v G1 H1 n1 r1 => EvR.mono isD_ex hb n1.ex H1 n1.kn _ fun w G2 H2 n2 r2 => by
    rw [dq_int r1, dq_int r2]
    exact ⟨a, b, rfl, ⟨by omega, by omega, by omega, by omega⟩, q _ G2 H2 (n1.trans n2) walk_range⟩
theorem rg1F {tb' : TE} {b : Int} (hb : Ev T tb' σ G b) (hr : -1000000 ≤ b ∧ b ≤ 1000000) : ∀ H, Kn T G H → ∀ R : It → Hp → Prop, (∀ J G2 H2, Nx T G H G2 H2 → Walk J (b - 0).toNat (fun _ => True) (YFn fun i => .int (0 + i)) → R J H2) → iRng1 (tCons tb' tNil) σ H R := fun H k R q =>
  hb H k _ fun w G2 H2 n2 r2 => by
    rw [dq_int r2]
    refine ⟨b, rfl, by omega, by omega, q _ G2 H2 n2 ?_⟩
    rw [Int.sub_zero]
    exact walk_range
/-- while: a ghost b tells how things stand; m b gets less -/
theorem st_while {γ : Type} {Γb : γ → List Sl} {ok : γ → Prop} {m : γ → Nat} {tst : γ → Bool} (b0 : γ) (s : Sat T G0 H0 F Γ σ G H) (w0 : Wk Γ (Γb b0)) (ok0 : ok b0) (h : ∀ b, ok b → ∀ {σ G}, SatI ((Γb b).map fz) σ G → EvT T t σ G (tst b))
    (hs : ∀ b, ok b → tst b = true → ∀ σ G H, Sat T G0 H0 F (Γb b) σ G H → tb { D with nx := fun σ H => ∃ b' G, m b' < m b ∧ ok b' ∧ Sat T G0 H0 F (Γb b') σ G H, ct := fun σ H => ∃ b' G, m b' < m b ∧ ok b' ∧ Sat T G0 H0 F (Γb b') σ G H, bk := D.nx } σ H)
    (hd : ∀ b, ok b → tst b = false → ∀ σ G H, Sat T G0 H0 F (Γb b) σ G H → D.nx σ H) : tWhile t tb D σ H := by
  refine ⟨fun k σ H => ∃ b G, k = m b ∧ ok b ∧ Sat T G0 H0 F (Γb b) σ G H, ⟨m b0, b0, G, rfl, ok0, s.weak w0⟩, ?_⟩
  rintro k σ H ⟨b, G, rfl, o, s⟩
  refine h b o s.fzI H s.fz_kn _ fun G2 H2 n => ?_
  cases e : tst b with
  | true =>
    refine iteT ⟨_, ?_, hs b o e σ _ H2 (s.thaw n)⟩
    rintro σ' H' ⟨b', G', h1, h2, h3⟩
    exact ⟨m b', h1, b', G', rfl, h2, h3⟩
  | false => exact iteF (hd b o e σ _ H2 (s.thaw n))
end
end Ho

set_option Elab.async false
set_option linter.all false
set_option maxRecDepth 100000
namespace Ho
open PySem PySem.Spec PySem.Calls PyProof.Rows L2 LamX NdefX Ed
open Ed.Enc (enc)
def wipeG (Γ : List Sl) : List Nat → List Sl
  | [] => Γ
  | v :: vs => (wipeG Γ vs).set v .un
section
variable {T : Tbs} {K : PySem.W.Frag} {σ : L2.St} {G0 H0 F G H : Hp} {Γ Γ' : List Sl} {O : Ow} {R R' : Rp} {i j : Nat} {ta te tl : TE} {D : Ends} {t : TT} {wi : TI} {g : TG} {vs : List Nat}
theorem SatI.wipe (s : SatI Γ σ G) : ∀ vs : List Nat, SatI (wipeG Γ vs) (L2.wipe σ vs) G
  | [] => s
  | v :: vs => (SatI.wipe s vs).setUn
theorem wipe_setin {x : Option V} : ∀ {vs : List Nat}, j ∈ vs → L2.wipe (σ.set j x) vs = L2.wipe σ vs
  | [], h => by cases h
  | v :: vs, h => by
    unfold L2.wipe
    by_cases hj : j ∈ vs
    · rw [wipe_setin hj]
    · have e : j = v := by
        rcases List.mem_cons.mp h with z | z
        · exact z
        · exact absurd z hj
      subst e
      refine List.ext_getElem? fun k => ?_
      by_cases hk : j = k
      · subst hk
        by_cases hl : j < σ.length
        · rw [List.getElem?_set_self (by rw [wipe_length, List.length_set]; exact hl), List.getElem?_set_self (by rw [wipe_length]; exact hl)]
        · rw [List.getElem?_eq_none (by rw [List.length_set, wipe_length, List.length_set]; omega), List.getElem?_eq_none (by rw [List.length_set, wipe_length]; omega)]
      · rw [List.getElem?_set_ne hk, List.getElem?_set_ne hk]
        by_cases hv : k ∈ vs
        · have a : ∀ {τ : L2.St} {us : List Nat}, k ∈ us → ∀ y, (L2.wipe τ us)[k]? ≠ some (some y) := fun hm y z => (wipe_some z).2 hm
          have l1 : (L2.wipe (σ.set j x) vs).length = (L2.wipe σ vs).length := by rw [wipe_length, wipe_length, List.length_set]
          cases e1 : (L2.wipe (σ.set j x) vs)[k]? with
          | none =>
            have := List.getElem?_eq_none_iff.mp e1
            rw [List.getElem?_eq_none (by omega)]
          | some u =>
            cases u with
            | some y => exact absurd e1 (a hv y)
            | none =>
              cases e2 : (L2.wipe σ vs)[k]? with
              | none =>
                have h1 := List.getElem?_eq_none_iff.mp e2
                have h2 := (List.getElem?_eq_some_iff.mp e1).1
                omega
              | some u =>
                cases u with
                | some y => exact absurd e2 (a hv y)
                | none => rfl
        · rw [wipe_out hv, wipe_out hv, List.getElem?_set_ne hk]
theorem wipe_twice : L2.wipe (L2.wipe σ vs) vs = L2.wipe σ vs := by
  have key : ∀ (us : List Nat), (∀ u ∈ us, u ∈ vs) → ∀ τ : L2.St, L2.wipe (L2.wipe τ us) vs = L2.wipe τ vs := by
    intro us
    induction us with
    | nil => intro _ τ; rfl
    | cons u us ih =>
      intro h τ
      show L2.wipe ((L2.wipe τ us).set u none) vs = _
      rw [wipe_setin (h u List.mem_cons_self), ih (fun w hw => h w (List.mem_cons_of_mem _ hw))]
  exact key vs (fun _ h => h) σ
def TgC (T : Tbs) (g : TG) (vs : List Nat) {ι : Type} (RR : ι → Rp) (tg : ι → List Sl → List Sl) : Prop := ∀ {Γ : List Sl} {σ : L2.St} {G H : Hp} {x : ι} {v : V}, SatI Γ σ G → Kn T G H → RR x G v → ∀ Q : L2.St → Hp → Prop, (∀ σ2, SatI (tg x Γ) σ2 G → L2.wipe σ2 vs = L2.wipe σ vs → Q σ2 H) → g v σ H Q
theorem tgc_name {ι : Type} {RR : ι → Rp} [∀ x, MonoC (RR x)] (hj : j ∈ vs := by decide) : TgC T (gName j) vs RR (fun x Γ => Γ.set j (.im (RR x))) := fun s k r Q q => q _ (s.set MonoC.m r) (wipe_setin hj)
theorem tgc_pair {α β : Type} [Enc α] [Enc β] {i j : Nat} (hi : i ∈ vs := by decide) (hj : j ∈ vs := by decide) : TgC T (gTup K 2 (gCons (gName i) (gCons (gName j) gNil))) vs (fun x : α × β => IsE x) (fun x Γ => (Γ.set i (.im (IsE x.1))).set j (.im (IsE x.2))) := fun {_ _ G H x v} s k r Q q => by
  have r : Dq G v (.tuple [enc x.1, enc x.2]) := r
  cases r with
  | @tup a us _ h1 h2 =>
    cases h2 with
    | cons r1 h3 =>
      cases h3 with
      | cons r2 h4 =>
        cases h4
        exact ⟨a, _, rfl, .inl (.inl (k.le _ _ h1)), rfl, _, _, rfl, _, _, rfl, rfl, q _ ((s.set isD_ex r1).set isD_ex r2) (by rw [wipe_setin hj, wipe_setin hi])⟩
theorem take_stepE {α : Type} {xs : List α} {i : Nat} {x : α} (h : xs[i]? = some x) : xs.take (i + 1) = xs.take i ++ [x] := by
  rw [List.take_add_one, h] <;> rfl
/-- one turn's test and element, onto the list at Dl -/
theorem lcd_turn {T : Tbs} {G H0 G' H' : Hp} {Dl : Addr} {ws : List V} {σ2 : L2.St} {cx : Bool} {ex : PyData} {Pn : Hp → Prop} (n : Nx T G H0 G' H') (h0 : H0 Dl = none) (hG : G' Dl = none) (hp : H' Dl = some (.lst ws)) (hz : ws.length < 100000)
    (ht : EvT T t σ2 G' cx) (he : cx = true → EvR T te σ2 G' (IsD ex)) (no : cx = false → ∀ G2 H2, Nx T G H0 G2 H2 → Ex G' G2 → G2 Dl = none → H2 Dl = some (.lst ws) → Pn H2)
    (yes : cx = true → ∀ v G2 H2, Nx T G H0 G2 H2 → Ex G' G2 → G2 Dl = none → H2 Dl = some (.lst (ws ++ [v])) → Dq G2 v ex → Pn H2) :
    t σ2 H' fun b H3 => if b = true then te σ2 H3 fun y H4 => ∃ acc, H4 Dl = some (.lst acc) ∧ acc.length < sizeLine ∧ Pn (upd H4 Dl (.lst (acc ++ [y]))) else Pn H3 := by
  have stay : ∀ {A B A2 B2 : Hp}, Nx T A B A2 B2 → A Dl = none → B Dl = some (.lst ws) → A2 Dl = none ∧ B2 Dl = some (.lst ws) := fun m e1 e2 => by
    exact ⟨m.out e1 e2 (fun xs z => by cases z), m.keep Dl _ e2 (fun ps z => by cases z)⟩
  refine ht H' n.kn _ fun G2 H2 n2 => ?_
  obtain ⟨g2, p2⟩ := stay n2 hG hp
  cases cx with
  | false => exact iteF (no rfl G2 H2 (n.trans n2) n2.ex g2 p2)
  | true =>
    refine iteT (EvR.mono isD_ex (he rfl) n2.ex H2 n2.kn _ fun v G3 H3 n3 r3 => ?_)
    obtain ⟨g3, p3⟩ := stay n3 g2 p2
    refine ⟨ws, p3, Nat.lt_of_lt_of_le hz (by decide), ?_⟩
    exact yes rfl v G3 _ (((n.trans n2).trans n3).mut h0 g3 p3 True.intro) (n2.ex.trans n3.ex) g3 upd_same r3
/-- [e for g in xs if c] -/
theorem en_lcG {ι : Type} {RR : ι → Rp} {tg : ι → List Sl → List Sl} {xs : List ι} (s : SatI Γ σ G) (c : ι → Bool) (e : ι → PyData) (h : SrcG T wi σ G RR xs) (hg : TgC T g vs RR tg) (hz : xs.length ≤ 50000)
    (ht : ∀ x ∈ xs, ∀ {σ G}, SatI (tg x (wipeG Γ vs)) σ G → EvT T t σ G (c x)) (he : ∀ x ∈ xs, c x = true → ∀ {σ G}, SatI (tg x (wipeG Γ vs)) σ G → EvR T te σ G (IsD (e x))) :
    EvND T (tLc wi g t te vs) σ G ((xs.filter c).map e) := fun H k Q q => h H k _ fun J G1 H1 n1 w Dl hD => by
  refine lc_it w (fun i H' => ∃ G' ws, Nx T G H G' H' ∧ Ex G1 G' ∧ G' Dl = none ∧ H' Dl = some (.lst ws) ∧ DqAll G' ws (((xs.take i).filter c).map e))
    ⟨G1, [], n1.trans (Nx.fresh n1.kn hD), Ex.refl G1, n1.kn.none hD, upd_same, by simpa using DqAll.nil⟩ (fun i H' _ ⟨G', ws, n, e1, _⟩ => ⟨G', e1, n.kn.le⟩) ?_ ?_
  · rintro i v H' H'' hi ⟨G', ws, n, e1, hG, hp, hr⟩ ⟨x, hx, hy⟩
    obtain ⟨G2, n2, r2⟩ := hy G' e1 n.kn
    have hxm : x ∈ xs := List.mem_of_getElem? hx
    have nn := n.trans n2
    have hG2 : G2 Dl = none := n2.out hG hp fun xs z => by cases z
    have hp2 : H'' Dl = some (.lst ws) := n2.keep Dl _ hp fun ps z => by cases z
    refine hg ((s.ex nn.ex).wipe vs) n2.kn r2 _ fun σ2 s2 hw => ⟨by rw [hw, wipe_twice], ?_⟩
    have hl := da_len hr
    rw [List.length_map] at hl
    have hl2 : ((xs.take i).filter c).length ≤ xs.length := Nat.le_trans (List.length_filter_le _ _) (by rw [List.length_take]; omega)
    refine lcd_turn nn (n1.dom Dl hD) hG2 hp2 (by omega) (ht x hxm s2) (fun hc => he x hxm hc s2) (fun hc G3 H3 n3 e3 g3 p3 => ?_) fun hc v3 G3 H3 n3 e3 g3 p3 r3 => ?_
    · refine ⟨G3, ws, n3, (e1.trans n2.ex).trans e3, g3, p3, ?_⟩
      rw [take_stepE hx, List.filter_append, List.filter_cons, if_neg (by rw [hc]; decide)]
      show DqAll G3 ws (((xs.take i).filter c ++ []).map e)
      rw [List.append_nil]
      exact da_ex (n2.ex.trans e3) hr
    · refine ⟨G3, _, n3, (e1.trans n2.ex).trans e3, g3, p3, ?_⟩
      rw [take_stepE hx, List.filter_append, List.filter_cons, if_pos hc, List.map_append]
      exact da_app (da_ex (n2.ex.trans e3) hr) (.cons r3 .nil)
  · rintro H' ⟨G', ws, n, e1, hG, hp, hr⟩
    rw [List.take_length] at hr
    exact q Dl ws G' H' n (n1.dom Dl hD) hG hp hr
theorem en_lcE {ι β : Type} [Enc β] {RR : ι → Rp} {tg : ι → List Sl → List Sl} {xs : List ι} (s : SatI Γ σ G) (c : ι → Bool) (f : ι → β) (h : SrcG T wi σ G RR xs) (hg : TgC T g vs RR tg) (hz : xs.length ≤ 50000)
    (ht : ∀ x ∈ xs, ∀ {σ G}, SatI (tg x (wipeG Γ vs)) σ G → EvT T t σ G (c x)) (he : ∀ x ∈ xs, c x = true → ∀ {σ G}, SatI (tg x (wipeG Γ vs)) σ G → EvR T te σ G (IsE (f x))) :
    EvN T (tLc wi g t te vs) σ G ((xs.filter c).map f) := fun H k Q q => en_lcG s c (fun x => enc (f x)) h hg hz ht he H k Q fun p us G2 H2 n a b d r => q p us G2 H2 n a b d (by rw [List.map_map]; exact r)
/-- [f for g in xs] -/
theorem en_lcM {ι β : Type} [Enc β] {RR : ι → Rp} {tg : ι → List Sl → List Sl} {xs : List ι} (s : SatI Γ σ G) (f : ι → β) (h : SrcG T wi σ G RR xs) (hg : TgC T g vs RR tg) (hz : xs.length ≤ 50000)
    (he : ∀ x ∈ xs, ∀ {σ G}, SatI (tg x (wipeG Γ vs)) σ G → EvR T te σ G (IsE (f x))) :
    EvN T (tLc wi g tYes te vs) σ G (xs.map f) := EvN.to (en_lcE s (fun _ => true) f h hg hz (fun _ _ _ _ _ => et_yes) fun x hx _ _ _ s => he x hx s) (by rw [List.filter_eq_self.mpr fun _ _ => rfl])
/-- [x for x in xs if c] -/
theorem en_lcF {ι : Type} [Enc ι] {RR : ι → Rp} {tg : ι → List Sl → List Sl} {xs : List ι} (s : SatI Γ σ G) (c : ι → Bool) (h : SrcG T wi σ G RR xs) (hg : TgC T g vs RR tg) (hz : xs.length ≤ 50000)
    (ht : ∀ x ∈ xs, ∀ {σ G}, SatI (tg x (wipeG Γ vs)) σ G → EvT T t σ G (c x)) (he : ∀ x ∈ xs, ∀ {σ G}, SatI (tg x (wipeG Γ vs)) σ G → EvR T te σ G (IsE x)) :
    EvN T (tLc wi g t te vs) σ G (xs.filter c) := EvN.to (en_lcE s c (fun x => x) h hg hz ht fun x hx _ _ _ s => he x hx s) (List.map_id' _)
theorem src_seqD {vs : List V} {ds : List PyData} {a : Addr} {G1 : Hp} (h2 : DqAll G1 vs ds) {i : Nat} {v : V} (hv : vs[i]? = some v) : ∃ d, ds[i]? = some d ∧ ∀ G', Ex G1 G' → Dq G' v d := by
  obtain ⟨d, hd, _⟩ := da_at h2 hv
  refine ⟨d, hd, fun G' e => ?_⟩
  obtain ⟨d2, hd2, r2⟩ := da_at (da_ex e h2) hv
  rw [hd] at hd2
  cases hd2
  exact r2
theorem src_listD {ds : List PyData} (h : EvR T tl σ G (IsD (.list ds))) : SrcG T (iList K tl) σ G (fun d => IsD d) ds := fun H k R q => h H k _ fun v G1 H1 n1 r1 => by
  have r1 : Dq G1 v (.list ds) := r1
  cases r1 with
  | @lst a us _ h1 h2 =>
    have hl := da_len h2
    have sq : ∀ H', (∃ G', Ex G1 G' ∧ Ex G' H') → SqL K H' a us := fun H' ⟨G', e1, e2⟩ => .inl (.inl (e2 _ _ (e1 _ _ h1)))
    refine ⟨a, rfl, ⟨us, .inl (.inl (n1.kn.le _ _ h1))⟩, q _ G1 H1 n1 ?_⟩
    rw [← hl]
    refine (walk_list (K := K) (a := a) (xs := us)).mono sq fun i H' v H'' hi hG y => ?_
    obtain ⟨e, hv⟩ := y
    subst e
    obtain ⟨d, hd, hr⟩ := src_seqD (a := a) h2 hv
    exact ⟨d, hd, fun G' e1 k' => ⟨G', Nx.refl k', hr G' e1⟩⟩
/-- the script -/
theorem src_S {ns : List Int} (h : EvR T tl σ G (IsS K ns)) : SrcG T (iList K tl) σ G (fun i : Int => IsE i) ns := fun H k R q => h H k _ fun v G1 H1 n1 r1 => by
  obtain ⟨a, rfl, h1⟩ := r1
  have sq : ∀ H', (∃ G', Ex G1 G' ∧ Ex G' H') → SqL K H' a (ns.map V.int) := fun H' ⟨G', e1, e2⟩ => sl_ex e2 (sl_ex e1 h1)
  refine ⟨a, rfl, ⟨_, sl_ex n1.kn.le h1⟩, q _ G1 H1 n1 ?_⟩
  have hl : ns.length = (ns.map V.int).length := (List.length_map _).symm
  rw [hl]
  refine (walk_list (K := K) (a := a) (xs := ns.map V.int)).mono sq fun i H' v H'' hi hG y => ?_
  obtain ⟨e, hv⟩ := y
  subst e
  rw [List.getElem?_map] at hv
  obtain ⟨x, hx, e⟩ := Option.map_eq_some_iff.mp hv
  subst e
  exact ⟨x, hx, fun G' e1 k' => ⟨G', Nx.refl k', .int x⟩⟩
/-- a tuple's values, each of its own kind -/
theorem src_tupR {Rs : List Rp} {ta : TA} (ms : MonoA Rs) (h : EvA T ta σ G Rs) (hz : Rs.length ≤ 1000) : SrcG T (iTup K (tTup ta)) σ G (fun R => R) Rs := fun H k R q => h H k _ fun vs G1 H1 n1 r1 => by
  have hl := allR_len r1
  refine ⟨by rw [hl]; exact Nat.le_trans hz (by decide), fun p hp => ?_⟩
  have n2 := Nx.new (o := .tup vs) n1.kn hp fun ps z => by cases z
  have sq : ∀ H', (∃ G', Ex (upd G1 p (.tup vs)) G' ∧ Ex G' H') → SqT K H' p vs := fun H' ⟨G', e1, e2⟩ => .inl (.inl (e2 _ _ (e1 _ _ upd_same)))
  refine ⟨p, rfl, ⟨vs, .inl (.inl upd_same)⟩, q _ _ _ (n1.trans n2) ?_⟩
  rw [← hl]
  refine (walk_tup (K := K) (a := p) (xs := vs)).mono sq fun i H' v H'' hi hG y => ?_
  obtain ⟨e, hv⟩ := y
  subst e
  obtain ⟨R, hR⟩ : ∃ R, Rs[i]? = some R := ⟨_, List.getElem?_eq_getElem (by omega)⟩
  obtain ⟨u, hu, ru⟩ := allR_get r1 i R hR
  rw [hv] at hu
  cases hu
  exact ⟨R, hR, fun G' e1 k' => ⟨G', Nx.refl k', (monoA_get ms i R hR).ex ((Ex.new (n1.kn.none hp)).trans e1) ru⟩⟩
end
end Ho

set_option linter.all false
namespace Sw
def dvs : Nat → Int → Int
  | 0, c => c
  | n + 1, c => dvs n c / 1000000
def celAt (ns : List Int) (k : Int) : Int := (ns[(k % (ns.length : Int)).toNat]?).getD 0
def mixed (c k : Int) : Int := (c % 1000000007 + 7919 * k + 13) * (c % 1000000007 + 7919 * k + 13) % 1000000007 * (c % 1000000007 + 7919 * k + 13) % 998244353 / 11
def drw (ns : List Int) (k : Int) : Int :=
  if (!decide (ns = []) && decide ((ns[0]?).getD 0 % 2 = 0)) = true then dvs (k / (ns.length : Int) % 60).toNat (celAt ns k / 2) % 1000000
  else mixed (if (!decide (ns = [])) = true then 31 * ns.sum + celAt ns k else 0) k
theorem drw_nn {ns : List Int} {k : Int} : 0 ≤ drw ns k := by
  unfold drw
  split
  · omega
  · unfold mixed
    omega
theorem mixed_b {c k : Int} (h0 : 0 ≤ k) (h1 : k ≤ 1000) : 0 ≤ c % 1000000007 + 7919 * k + 13 ∧ c % 1000000007 + 7919 * k + 13 < 1073741824 := by omega
/-- one is taken out, step by step -/
def lrS (ns : List Int) (k : Int) (m : Nat) : Nat → List Int × List Int
  | 0 => (rng m, [])
  | j + 1 => ((lrS ns k m j).1.eraseIdx (drw ns (k + (j : Int)) % ((lrS ns k m j).1.length : Int)).toNat,
      (lrS ns k m j).2 ++ [((lrS ns k m j).1[(drw ns (k + (j : Int)) % ((lrS ns k m j).1.length : Int)).toNat]?).getD 0])
def lrow (ns : List Int) (k : Int) (m : Nat) : List Int := (lrS ns k m m).2
theorem takeOut : ∀ {l : List Int} {d : Nat} (h : d < l.length), (l[d] :: l.eraseIdx d).Perm l
  | _ :: _, 0, _ => List.Perm.refl _
  | x :: xs, d + 1, h => (List.Perm.swap _ _ _).trans (List.Perm.cons x (takeOut (l := xs) (d := d) (Nat.lt_of_succ_lt_succ h)))
theorem lrS_ok (ns : List Int) (k : Int) (m : Nat) : ∀ j, j ≤ m → (lrS ns k m j).1.length = m - j ∧ (lrS ns k m j).2.length = j ∧ ((lrS ns k m j).2 ++ (lrS ns k m j).1).Perm (rng m)
  | 0, _ => ⟨by
      show (rng m).length = m
      rw [len_rngI]
      omega, rfl, List.Perm.refl _⟩
  | j + 1, h => by
    obtain ⟨l1, l2, p⟩ := lrS_ok ns k m j (by omega)
    generalize hs : lrS ns k m j = s at l1 l2 p
    have hd : (drw ns (k + (j : Int)) % (s.1.length : Int)).toNat < s.1.length := by
      have a1 := Int.emod_lt_of_pos (drw ns (k + (j : Int))) (b := (s.1.length : Int)) (by omega)
      have a2 := Int.emod_nonneg (drw ns (k + (j : Int))) (b := (s.1.length : Int)) (by omega)
      omega
    show ((lrS ns k m j).1.eraseIdx _).length = _ ∧ ((lrS ns k m j).2 ++ [_]).length = _ ∧ (((lrS ns k m j).2 ++ [_]) ++ (lrS ns k m j).1.eraseIdx _).Perm _
    rw [hs]
    generalize (drw ns (k + (j : Int)) % (s.1.length : Int)).toNat = d at hd
    refine ⟨?_, ?_, ?_⟩
    · rw [List.length_eraseIdx, if_pos hd]
      omega
    · rw [List.length_append, l2]
      rfl
    · refine List.Perm.trans ?_ p
      rw [List.append_assoc]
      refine List.Perm.append_left _ ?_
      rw [List.getElem?_eq_getElem hd]
      exact takeOut hd
theorem lrow_row {ns : List Int} {k : Int} {m : Nat} : Row m (lrow ns k m) := by
  obtain ⟨l1, l2, p⟩ := lrS_ok ns k m m (Nat.le_refl _)
  have e : (lrS ns k m m).1 = [] := List.eq_nil_of_length_eq_zero (by omega)
  rw [e, List.append_nil] at p
  exact ⟨p⟩
/-- some swap that goes up -/
def upsOf (r : List Int) : List Int := (rngI 0 ((r.length : Int) - 1)).filter fun a => decide ((r[a.toNat]?).getD 0 < (r[(a + 1).toNat]?).getD 0)
def upAt (r : List Int) (d : Int) : List Int :=
  if (!decide (upsOf r = [])) = true then
    r.take (((upsOf r)[(d % ((upsOf r).length : Int)).toNat]?).getD 0).toNat ++ [(r[(((upsOf r)[(d % ((upsOf r).length : Int)).toNat]?).getD 0 + 1).toNat]?).getD 0, (r[(((upsOf r)[(d % ((upsOf r).length : Int)).toNat]?).getD 0).toNat]?).getD 0] ++ r.drop (((upsOf r)[(d % ((upsOf r).length : Int)).toNat]?).getD 0 + 2).toNat
  else r
def lup (ns : List Int) (k : Int) (r : List Int) : Nat → List Int
  | 0 => r
  | j + 1 => upAt (lup ns k r j) (drw ns (k + (j : Int)))
theorem swap_perm {r : List Int} {a : Nat} (h : a + 1 < r.length) : (r.take a ++ [(r[a + 1]?).getD 0, (r[a]?).getD 0] ++ r.drop (a + 2)).Perm r := by
  have e : r = r.take a ++ (r[a]'(by omega) :: r[a + 1]'h :: r.drop (a + 2)) := by
    have e1 := List.drop_eq_getElem_cons (l := r) (i := a) (by omega)
    have e2 := List.drop_eq_getElem_cons (l := r) (i := a + 1) h
    rw [← e2, ← e1, List.take_append_drop]
  rw [List.getElem?_eq_getElem h, List.getElem?_eq_getElem (show a < r.length by omega)]
  refine List.Perm.trans ?_ (List.Perm.of_eq e.symm)
  rw [List.append_assoc]
  exact List.Perm.append_left _ (List.Perm.swap _ _ _)
theorem ups_at {r : List Int} {d : Int} (h : ¬ upsOf r = []) : ∃ a, (upsOf r)[(d % ((upsOf r).length : Int)).toNat]? = some a ∧ 0 ≤ a ∧ a + 1 < (r.length : Int) := by
  have hl : 0 < (upsOf r).length := List.length_pos_iff.mpr h
  have hd : (d % ((upsOf r).length : Int)).toNat < (upsOf r).length := by
    have a1 := Int.emod_lt_of_pos d (b := ((upsOf r).length : Int)) (by omega)
    have a2 := Int.emod_nonneg d (b := ((upsOf r).length : Int)) (by omega)
    omega
  refine ⟨_, List.getElem?_eq_getElem hd, ?_⟩
  have hm := List.getElem_mem hd
  have hm2 := mem_rngI.mp ((List.mem_filter.mp hm).1)
  omega
theorem upAt_row {n : Nat} {r : List Int} (R : Row n r) (d : Int) : Row n (upAt r d) := by
  unfold upAt
  by_cases h : upsOf r = []
  · rw [decide_eq_true h]
    exact R
  · rw [decide_eq_false h]
    obtain ⟨a, e, h0, h1⟩ := ups_at (d := d) h
    rw [e]
    show Row n (r.take a.toNat ++ [(r[(a + 1).toNat]?).getD 0, (r[a.toNat]?).getD 0] ++ r.drop (a + 2).toNat)
    have e1 : (a + 1).toNat = a.toNat + 1 := by omega
    have e2 : (a + 2).toNat = a.toNat + 2 := by omega
    rw [e1, e2]
    exact ⟨(swap_perm (by omega)).trans R.perm⟩
theorem lup_row {n : Nat} {ns : List Int} {k : Int} {r : List Int} (R : Row n r) : ∀ j, Row n (lup ns k r j)
  | 0 => R
  | j + 1 => upAt_row (lup_row R j) _
/-- the three rows -/
def lmany (ns : List Int) : Nat := (1 + drw ns 0 / 8 % 12).toNat
def lone (ns : List Int) : List Int := if decide (drw ns 0 % 4 = 1) = true then lup ns 20 (rng (lmany ns)) (drw ns 0 / 64 % (2 * (lmany ns : Int))).toNat else lrow ns 1 (lmany ns)
def lother (ns : List Int) : List Int := if decide (drw ns 0 % 8 > 4) = true then lup ns 70 (lone ns) (drw ns 0 / 512 % (2 * (lmany ns : Int) + 1)).toNat else lrow ns 50 (lmany ns)
def lthird (ns : List Int) : List Int := if decide (drw ns 250 % 3 = 1) = true then lup ns 260 (lone ns) (drw ns 251 % (2 * (lmany ns : Int) + 1)).toNat else lrow ns 200 (lmany ns)
theorem lmany_b {ns : List Int} : 1 ≤ lmany ns ∧ lmany ns ≤ 12 ∧ (lmany ns : Int) = 1 + drw ns 0 / 8 % 12 := by
  unfold lmany
  omega
theorem rng_row {n : Nat} : Row n (rng n) := ⟨List.Perm.refl _⟩
theorem lone_row {ns : List Int} : Row (lmany ns) (lone ns) := by
  unfold lone
  split
  · exact lup_row rng_row _
  · exact lrow_row
theorem lother_row {ns : List Int} : Row (lmany ns) (lother ns) := by
  unfold lother
  split
  · exact lup_row lone_row _
  · exact lrow_row
theorem lthird_row {ns : List Int} : Row (lmany ns) (lthird ns) := by
  unfold lthird
  split
  · exact lup_row lone_row _
  · exact lrow_row
end Sw

set_option linter.all false
namespace Sw
def ga (r : List Int) (i : Int) : Int := (r[i.toNat]?).getD 0
theorem ga_at {r : List Int} {i : Int} (h0 : 0 ≤ i) (h1 : i < (r.length : Int)) : r[i.toNat]? = some (ga r i) := by
  unfold ga
  rw [List.getElem?_eq_getElem (by omega)] <;> rfl
def sw (r : List Int) (p : Int) : List Int := r.take (p - 1).toNat ++ [ga r p, ga r (p - 1)] ++ r.drop (p + 1).toNat
def wkd (r : List Int) (ps : List Int) : List Int := ps.foldl sw r
variable {n : Nat} {r : List Int} {p : Int}
theorem sw_len (h1 : 1 ≤ p) (h2 : p < (r.length : Int)) : (sw r p).length = r.length := by
  unfold sw
  rw [List.length_append, List.length_append, List.length_take, List.length_drop]
  show min _ _ + 2 + _ = _
  omega
theorem sw_get (h1 : 1 ≤ p) (h2 : p < (r.length : Int)) (i : Nat) : (sw r p)[i]? = if i + 1 = p.toNat then r[p.toNat]? else if i = p.toNat then r[(p - 1).toNat]? else r[i]? := by
  have a1 : (r.take (p - 1).toNat).length = (p - 1).toNat := by
    rw [List.length_take]
    omega
  unfold sw
  rw [List.append_assoc]
  by_cases c1 : i < (p - 1).toNat
  · rw [List.getElem?_append_left (by omega), List.getElem?_take_of_lt c1, if_neg (by omega), if_neg (by omega)]
  rw [List.getElem?_append_right (by omega), a1]
  by_cases c2 : i + 1 = p.toNat
  · rw [if_pos c2]
    have e : i - (p - 1).toNat = 0 := by omega
    rw [e]
    exact (ga_at (by omega) h2).symm
  rw [if_neg c2]
  by_cases c3 : i = p.toNat
  · rw [if_pos c3]
    have e : i - (p - 1).toNat = 1 := by omega
    rw [e]
    exact (ga_at (i := p - 1) (by omega) (by omega)).symm
  rw [if_neg c3, List.getElem?_append_right (by show 2 ≤ _; omega), List.getElem?_drop]
  show r[(p + 1).toNat + (i - (p - 1).toNat - 2)]? = _
  congr 1
  omega
theorem set_sw (h1 : 1 ≤ p) (h2 : p < (r.length : Int)) : (r.set (p - 1).toNat (ga r p)).set p.toNat (ga r (p - 1)) = sw r p := by
  refine List.ext_getElem? fun i => ?_
  rw [sw_get h1 h2]
  by_cases c3 : i = p.toNat
  · subst c3
    rw [List.getElem?_set_self (by rw [List.length_set]; omega), if_neg (by omega), if_pos rfl]
    exact (ga_at (by omega) (by omega)).symm
  rw [List.getElem?_set_ne (Ne.symm c3), if_neg c3]
  by_cases c2 : i + 1 = p.toNat
  · have e : i = (p - 1).toNat := by omega
    subst e
    rw [List.getElem?_set_self (by omega), if_pos c2]
    exact (ga_at (by omega) (by omega)).symm
  rw [List.getElem?_set_ne (by omega), if_neg c2]
theorem sw_sw (h1 : 1 ≤ p) (h2 : p < (r.length : Int)) : sw (sw r p) p = r := by
  refine List.ext_getElem? fun i => ?_
  rw [sw_get h1 (by rw [sw_len h1 h2]; exact h2), sw_get h1 h2, sw_get h1 h2, sw_get h1 h2]
  by_cases c2 : i + 1 = p.toNat
  · rw [if_pos c2, if_neg (by omega), if_pos rfl]
    congr 1
    omega
  rw [if_neg c2]
  by_cases c3 : i = p.toNat
  · rw [if_pos c3, if_pos (by omega), c3]
  rw [if_neg c3, if_neg c2, if_neg c3]
theorem sw_perm (h1 : 1 ≤ p) (h2 : p < (r.length : Int)) : (sw r p).Perm r := by
  have h := swap_perm (r := r) (a := (p - 1).toNat) (by omega)
  have e1 : (p - 1).toNat + 1 = p.toNat := by omega
  have e2 : (p - 1).toNat + 2 = (p + 1).toNat := by omega
  rw [e1, e2] at h
  exact h
theorem sw_row (R : Row n r) (h1 : 1 ≤ p) (h2 : p < (n : Int)) : Row n (sw r p) := ⟨(sw_perm h1 (by rw [R.len]; exact h2)).trans R.perm⟩
theorem wkd_row : ∀ {ps : List Int} {r : List Int}, Row n r → (∀ p ∈ ps, 1 ≤ p ∧ p < (n : Int)) → Row n (wkd r ps)
  | [], _, R, _ => R
  | p :: ps, r, R, h => wkd_row (ps := ps) (sw_row R (h p List.mem_cons_self).1 (h p List.mem_cons_self).2) fun q hq => h q (List.mem_cons_of_mem _ hq)
theorem wkd_snoc {ps : List Int} {q : Int} : wkd r (ps ++ [q]) = sw (wkd r ps) q := by
  unfold wkd
  rw [List.foldl_append]
  rfl
def upsR (r : List Int) : List Int := (rngI 1 (r.length : Int)).filter fun p => decide (ga r (p - 1) < ga r p)
def dnsR (r : List Int) : List Int := (rngI 1 (r.length : Int)).filter fun p => decide (ga r (p - 1) > ga r p)
theorem ga_ne (R : Row n r) (h1 : 1 ≤ p) (h2 : p < (n : Int)) : ga r (p - 1) ≠ ga r p := fun e => by
  have hl := R.len
  have a := ga_at (r := r) (i := p - 1) (by omega) (by omega)
  have b := ga_at (r := r) (i := p) (by omega) (by omega)
  rw [e] at a
  have := (List.getElem?_inj (by omega) R.nodup).mp (a.trans b.symm)
  omega
theorem dns_eq (R : Row n r) : (rngI 1 (n : Int)).filter (fun p => !decide (p ∈ upsR r)) = dnsR r := by
  unfold dnsR
  rw [R.len]
  refine List.filter_congr fun p hp => ?_
  have hm := mem_rngI.mp hp
  have ne := ga_ne R hm.1 hm.2
  have e : (p ∈ upsR r) ↔ ga r (p - 1) < ga r p := by
    unfold upsR
    rw [List.mem_filter, R.len, decide_eq_true_iff]
    exact ⟨fun z => z.2, fun z => ⟨hp, z⟩⟩
  rw [decide_eq_decide.mpr e]
  by_cases c : ga r (p - 1) < ga r p
  · rw [decide_eq_true c, decide_eq_false (by omega)]
    rfl
  · rw [decide_eq_false c, decide_eq_true (by omega)]
    rfl
/-- the law's word -/
def lword (ns : List Int) (k m t : Int) : List Int := if m = 1 then [] else (rngI 0 (drw ns k / 3 % (t + 1))).map fun j => 1 + drw ns (k + 1 + j) / 3 % (m - 1)
theorem lword_ok {ns : List Int} {k m t : Int} (hm : 1 ≤ m) : ∀ p ∈ lword ns k m t, 1 ≤ p ∧ p < m := by
  intro p hp
  unfold lword at hp
  by_cases c : m = 1
  · rw [if_pos c] at hp
    cases hp
  · rw [if_neg c] at hp
    obtain ⟨j, _, rfl⟩ := List.mem_map.mp hp
    have a := Int.emod_nonneg (drw ns (k + 1 + j) / 3) (b := m - 1) (by omega)
    have b := Int.emod_lt_of_pos (drw ns (k + 1 + j) / 3) (b := m - 1) (by omega)
    omega
theorem lword_len {ns : List Int} {k m t : Int} (ht : 0 ≤ t) : (lword ns k m t).length ≤ t.toNat := by
  unfold lword
  split
  · exact Nat.zero_le _
  · rw [List.length_map, len_rngI]
    have b := Int.emod_lt_of_pos (drw ns k / 3) (b := t + 1) (by omega)
    omega
end Sw

set_option Elab.async false
set_option linter.all false
set_option maxRecDepth 100000
namespace Ho
open PySem PySem.Spec PySem.Calls PyProof.Rows L2 LamX NdefX Ed
open Ed.Enc (enc)
/-- more built-ins -/
structure Bj (mg : Str → Option Value) : Prop where
  abs : mg "abs" = none
  max : mg "max" = none
  min : mg "min" = none
  sum : mg "sum" = none
  str : mg "str" = none
  set : mg "set" = none
  dict : mg "dict" = none
  repr : mg "repr" = none
  ValueError : mg "ValueError" = none
theorem hu64 {A : Around} {k : Nat} (hr : Room k A) : A.units + 64 < cLine := by
  have := hr.un
  omega
section
variable {X : Cx} {K : PySem.W.Frag}
theorem pi_tupK {tg l : Expr} {tl : TE} (h : X.K = K) (hl : PE X l tl) : PI X tg l (iTup K tl) := h ▸ pi_tup hl
end
section
variable {T : Tbs} {K : PySem.W.Frag} {σ : L2.St} {G0 H0 F G H : Hp} {Γ Γ' : List Sl} {O : Ow} {R R' : Rp} {i j : Nat} {te tl ta tb tc td : TE} {D : Ends} {t : TT} {tu tw : TS} {α β : Type} [Enc α] [Enc β]
theorem ev_fdiv {i j : Int} (ha : Ev T ta σ G i) (hb : Ev T tb σ G j) (h0 : 0 < j := by decide) (h1 : j < 1073741824 := by decide) : Ev T (tOp (rI CDiv fun i j => .int (i / j)) ta tb) σ G (i / j) := ev_i (f := fun i j => i / j) ha hb ⟨h0, h1⟩
theorem ev_mod {i j : Int} (ha : Ev T ta σ G i) (hb : Ev T tb σ G j) (h0 : 0 < j := by decide) : Ev T (tOp (rI (fun _ j => 0 < j) fun i j => .int (i % j)) ta tb) σ G (i % j) := ev_i (f := fun i j => i % j) ha hb h0
theorem ev_mul {i j : Int} (ha : Ev T ta σ G i) (hb : Ev T tb σ G j) (h : CMul i j) : Ev T (tOp (rI CMul fun i j => .int (i * j)) ta tb) σ G (i * j) := ev_i (f := fun i j => i * j) ha hb h
theorem ev_add {i j : Int} (ha : Ev T ta σ G i) (hb : Ev T tb σ G j) : Ev T (tOp (rI0 fun i j => .int (i + j)) ta tb) σ G (i + j) := ev_i0 (f := fun i j => i + j) ha hb
theorem ev_sub {i j : Int} (ha : Ev T ta σ G i) (hb : Ev T tb σ G j) : Ev T (tOp (rI0 fun i j => .int (i - j)) ta tb) σ G (i - j) := ev_i0 (f := fun i j => i - j) ha hb
theorem ev_lt {i j : Int} (ha : Ev T ta σ G i) (hb : Ev T tb σ G j) : Ev T (tOp (rI0 fun i j => .bl (decide (i < j))) ta tb) σ G (decide (i < j)) := ev_b0 (f := fun i j => decide (i < j)) ha hb
theorem ev_le {i j : Int} (ha : Ev T ta σ G i) (hb : Ev T tb σ G j) : Ev T (tOp (rI0 fun i j => .bl (decide (i ≤ j))) ta tb) σ G (decide (i ≤ j)) := ev_b0 (f := fun i j => decide (i ≤ j)) ha hb
theorem ev_gt {i j : Int} (ha : Ev T ta σ G i) (hb : Ev T tb σ G j) : Ev T (tOp (rI0 fun i j => .bl (decide (i > j))) ta tb) σ G (decide (i > j)) := ev_b0 (f := fun i j => decide (i > j)) ha hb
theorem ev_ge {i j : Int} (ha : Ev T ta σ G i) (hb : Ev T tb σ G j) : Ev T (tOp (rI0 fun i j => .bl (decide (i ≥ j))) ta tb) σ G (decide (i ≥ j)) := ev_b0 (f := fun i j => decide (i ≥ j)) ha hb
theorem cmul_l {i j : Int} (h0 : -1000000000000 ≤ i) (h1 : i ≤ 1000000000000) : CMul i j := .inl ⟨by omega, by omega⟩
theorem cmul_r {i j : Int} (h0 : -1000000000000 ≤ j) (h1 : j ≤ 1000000000000) : CMul i j := .inr ⟨by omega, by omega⟩
theorem atI_nn {α : Type} {xs : List α} {i : Int} {x : α} (h0 : 0 ≤ i) (h : xs[i.toNat]? = some x) : atI xs i = some x := by
  have hi := (List.getElem?_eq_some_iff.mp h).1
  have e : i = (i.toNat : Int) := (Int.toNat_of_nonneg h0).symm
  rw [e]
  exact atI_nat h
/-- xs[i], xs of whole numbers -/
theorem ev_ga {xs : List Int} {i : Int} (ha : Ev T ta σ G xs) (hb : Ev T tb σ G i) (h0 : 0 ≤ i := by omega) (h1 : i < (xs.length : Int) := by omega) : Ev T (tOp (rIxL K) ta tb) σ G (Sw.ga xs i) := ev_ix ha hb (atI_nn h0 (Sw.ga_at h0 h1))
theorem cut_toI {α : Type} {xs : List α} {i : Int} (h0 : 0 ≤ i) (h : i ≤ (xs.length : Int)) : cutA xs none (some i) = xs.take i.toNat := by
  obtain ⟨n, rfl⟩ := Int.eq_ofNat_of_zero_le h0
  unfold cutA
  rw [HT.sIx_nat, HT.sIx_none, Nat.min_eq_left (by omega)]
  simp
theorem cut_fromI {xs : List α} {i : Int} (h0 : 0 ≤ i) : cutA xs (some i) none = xs.drop i.toNat := by
  obtain ⟨n, rfl⟩ := Int.eq_ofNat_of_zero_le h0
  rw [cut_from]
  rfl
theorem cut_toL {α : Type} {xs : List α} {i : Int} (h0 : 0 ≤ i) : cutA xs none (some i) = xs.take i.toNat := by
  obtain ⟨n, rfl⟩ := Int.eq_ofNat_of_zero_le h0
  unfold cutA
  rw [HT.sIx_nat, HT.sIx_none]
  by_cases h : n ≤ xs.length
  · rw [Nat.min_eq_left h]
    simp
  · rw [Nat.min_eq_right (by omega)]
    simp [List.take_of_length_le (show xs.length ≤ n by omega)]
theorem en_to {xs : List α} {i : Int} (h : Ev T tl σ G xs) (hi : Ev T ta σ G i) (h0 : 0 ≤ i := by omega) : EvN T (tSl (rSlL K) tl tNoPart (tPart ta)) σ G (xs.take i.toNat) := EvN.to (en_sl h eo_none (eo_some hi)) (cut_toL h0)
theorem en_from {xs : List α} {i : Int} (h : Ev T tl σ G xs) (hi : Ev T ta σ G i) (h0 : 0 ≤ i := by omega) : EvN T (tSl (rSlL K) tl (tPart ta) tNoPart) σ G (xs.drop i.toNat) := EvN.to (en_sl h (eo_some hi) eo_none) (cut_fromI h0)
theorem en_nil : EvN T (tLst tNil) σ G ([] : List α) := en_lst (xs := ([] : List α)) ea_nil (by show 0 ≤ 1000; decide)
theorem en_one {x : α} (h : Ev T ta σ G x) : EvN T (tLst (tCons ta tNil)) σ G [x] := en_lst (xs := [x]) (ea1 isD_ex h) (by show 1 ≤ 1000; decide)
theorem en_two {x y : α} (h : Ev T ta σ G x) (h' : Ev T tb σ G y) : EvN T (tLst (tCons ta (tCons tb tNil))) σ G [x, y] := en_lst (xs := [x, y]) (ea2 isD_ex isD_ex h h') (by show 2 ≤ 1000; decide)
theorem src_r2 {a b : Int} (ha : Ev T ta σ G a) (hb : Ev T tb σ G b) (hr : -1000000 ≤ a ∧ a ≤ 1000000 ∧ -1000000 ≤ b ∧ b ≤ 1000000 := by omega) : SrcG T (iRng2 (tCons ta (tCons tb tNil))) σ G (fun x : Int => IsE x) (Sw.rngI a b) := src_rng2 ha hb hr
theorem src_r1 {b : Int} (hb : Ev T tb σ G b) (hr : -1000000 ≤ b ∧ b ≤ 1000000 := by omega) : SrcG T (iRng1 (tCons tb tNil)) σ G (fun x : Int => IsE x) (Sw.rngI 0 b) := src_rng1 hb hr.2 hr.1
theorem src_l {xs : List α} (h : Ev T tl σ G xs) : SrcG T (iList K tl) σ G (fun x : α => IsE x) xs := src_list h
theorem src_e {xs : List α} (h : Ev T tl σ G xs) : SrcG T (iEnum K (tCons tl tNil)) σ G (fun x : Int × α => IsE x) (enumZ xs) := src_enum h
theorem ix_nn {n : Nat} {k : Int} (h0 : 0 ≤ k) (h1 : k < (n : Int)) : ixN n k = some k.toNat := by
  unfold ixN
  rw [if_pos h0, if_pos h1]
theorem da_set {G : Hp} {v : V} {d : PyData} : ∀ {ds : List PyData} {vs : List V} (k : Nat), DqAll G vs ds → Dq G v d → DqAll G (vs.set k v) (ds.set k d)
  | _, _, _, .nil, _ => .nil
  | _, _, 0, .cons _ t, h => .cons h t
  | _, _, k + 1, .cons a t, h => .cons a (da_set k t h)
/-- xs[k] = x, xs an own list -/
theorem st_put {d : PyData} {k : Int} (s : Sat T G0 H0 F Γ σ G H) (hi : Γ[i]? = some (.ow (OL ds))) (hx : ∀ {G}, SatI (Γ.map hd) σ G → EvR T te σ G (IsD d)) (hk : ∀ {G}, SatI (Γ.map hd) σ G → Ev T ta σ G k) (h0 : 0 ≤ k) (h1 : k < (ds.length : Int))
    (c : ∀ G H, Sat T G0 H0 F (Γ.set i (.ow (OL (ds.set k.toNat d)))) σ G H → D.nx σ H) : tAsg te (gSub (tVar i) ta rSetL) D σ H := by
  refine hx s.hdI H s.kn _ fun v G1 H1 n1 r1 => ?_
  have s1 := s.step n1
  obtain ⟨p, vs, e, z1, z2, r⟩ := s1.own hi
  refine ⟨.ref p, e, hk s1.hdI H1 s1.kn _ fun w G2 H2 n2 r2 => ?_⟩
  have s2 := s1.step n2
  obtain ⟨y1, y2⟩ := stays n2 z1 z2 nt_lst nu_lst
  have hl := da_len r
  rw [dq_int r2]
  refine ⟨p, vs, k, k.toNat, rfl, rfl, y2, ix_nn h0 (by omega), c G2 _ (s2.mut hi e ⟨_, rfl, ?_⟩)⟩
  exact da_set k.toNat (da_ex n2.ex r) (isD_ex.ex n2.ex r1)
end
end Ho

set_option Elab.async false
set_option linter.all false
set_option maxRecDepth 100000
namespace Ho
open PySem PySem.Spec PySem.Calls PyProof.Rows L2 LamX NdefX Ed
open Ed.Enc (enc)
section
variable {T : Tbs} {K : PySem.W.Frag} {σ : L2.St} {G0 H0 F G H : Hp} {Γ Γ' : List Sl} {O : Ow} {R R' : Rp} {i j : Nat} {te tl ta tb tc td : TE} {D : Ends} {t : TT} {tu tw : TS} {α β : Type} [Enc α] [Enc β] {ds : List PyData}
/-- one store of the tuple's -/
theorem gsub_put {v : V} {d : PyData} {k : Int} (s : Sat T G0 H0 F Γ σ G H) (hi : Γ[i]? = some (.ow (OL ds))) (hv : Dq G v d) (hk : ∀ {G}, SatI (Γ.map hd) σ G → Ev T ta σ G k) (h0 : 0 ≤ k) (h1 : k < (ds.length : Int)) {Q : L2.St → Hp → Prop}
    (c : ∀ G2 H2, Ex G G2 → Sat T G0 H0 F (Γ.set i (.ow (OL (ds.set k.toNat d)))) σ G2 H2 → Q σ H2) : gSub (tVar i) ta rSetL v σ H Q := by
  obtain ⟨p, vs, e, z1, z2, r⟩ := s.own hi
  refine ⟨.ref p, e, hk s.hdI H s.kn _ fun w G2 H2 n2 r2 => ?_⟩
  have s2 := s.step n2
  obtain ⟨y1, y2⟩ := stays n2 z1 z2 nt_lst nu_lst
  have hl := da_len r
  rw [dq_int r2]
  exact ⟨p, vs, k, k.toNat, rfl, rfl, y2, ix_nn h0 (by omega), c G2 _ n2.ex (s2.mut hi e ⟨_, rfl, da_set k.toNat (da_ex n2.ex r) (dq_ex n2.ex hv)⟩)⟩
/-- xs[a], xs[b] = x, y: xs an own list, x and y whole numbers -/
theorem st_two {x y a b : Int} (s : Sat T G0 H0 F Γ σ G H) (hi : Γ[i]? = some (.ow (OL ds))) (hx : ∀ {G}, SatI (Γ.map fz) σ G → Ev T tc σ G x) (hy : ∀ {G}, SatI (Γ.map fz) σ G → Ev T td σ G y)
    (ha : ∀ {G}, SatI (Γ.map hd) σ G → Ev T ta σ G a) (hb : ∀ {G}, SatI (Γ.map hd) σ G → Ev T tb σ G b) (a0 : 0 ≤ a) (a1 : a < (ds.length : Int)) (b0 : 0 ≤ b) (b1 : b < (ds.length : Int)) (hl : i < Γ.length)
    (c : ∀ G H, Sat T G0 H0 F (Γ.set i (.ow (OL ((ds.set a.toNat (enc x)).set b.toNat (enc y))))) σ G H → D.nx σ H) :
    tAsg (tTup (tCons tc (tCons td tNil))) (gTup K 2 (gCons (gSub (tVar i) ta rSetL) (gCons (gSub (tVar i) tb rSetL) gNil))) D σ H := by
  refine hx s.fzI H s.fz_kn _ fun v G1 H1 n1 r1 => EvR.mono isD_ex (hy s.fzI) n1.ex H1 n1.kn _ fun w G2 H2 n2 r2 => ⟨by show 2 ≤ sizeLine; decide, fun p hp => ?_⟩
  have ev := dq_int r1
  have ew := dq_int r2
  subst ev ew
  have n12 := n1.trans n2
  have s1 := s.thaw n12
  have n3 := Nx.new (o := .tup [.int x, .int y]) s1.kn hp fun ps z => by cases z
  have s2 := s1.step n3
  refine ⟨p, _, rfl, .inl (.inl (s2.kn.le _ _ upd_same)), rfl, _, _, rfl, ?_⟩
  refine gsub_put s2 hi (.int x) ha a0 a1 fun G4 H4 e4 s4 => ⟨_, _, rfl, ?_⟩
  have hmap : ∀ O : Ow, (Γ.set i (.ow O)).map hd = Γ.map hd := fun O => by
    refine List.ext_getElem? fun k => ?_
    rw [List.getElem?_map, List.getElem?_map]
    by_cases e : i = k
    · subst e
      rw [List.getElem?_set_self hl, hi]
      rfl
    · rw [List.getElem?_set_ne e]
  refine gsub_put (d := enc y) s4 (List.getElem?_set_self hl) (.int y) (fun {G} z => hb (by rw [hmap] at z; exact z)) b0 (by rw [List.length_set]; exact b1) fun G5 H5 e5 s5 => ⟨rfl, ?_⟩
  rw [List.set_set] at s5
  exact c G5 H5 s5
/-- own lists of numbers: the data told again -/
theorem set_enc {xs : List α} {k : Nat} {x : α} : (xs.map enc).set k (enc x) = (xs.set k x).map enc := by
  rw [List.map_set]
end
end Ho

set_option Elab.async false
set_option linter.all false
set_option maxRecDepth 100000
namespace Ho
open PySem PySem.Spec PySem.Calls PyProof.Rows L2 LamX NdefX Ed
open Ed.Enc (enc)
def OA (n : Nat) : Ow where
  P := fun _ _ o => ∃ vs, o = .lst vs ∧ vs.length ≤ n
  R := fun G v => ∃ p vs, v = .ref p ∧ G p = some (.lst vs)
  mono := fun _ h => h
  soft := fun ⟨vs, h, _⟩ => by rw [h]; trivial
  toR := fun e ⟨vs, h, _⟩ => by
    subst h
    exact ⟨_, _, rfl, e⟩
  monoR := ⟨fun e ⟨p, vs, h1, h2⟩ => ⟨p, vs, h1, e _ _ h2⟩⟩
def setAll : List Nat → Sl → List Sl → List Sl
  | [], _, Γ => Γ
  | k :: L, S, Γ => (setAll L S Γ).set k S
theorem setAll_len (S : Sl) (Γ : List Sl) : ∀ L : List Nat, (setAll L S Γ).length = Γ.length
  | [] => rfl
  | k :: L => by
    unfold setAll
    rw [List.length_set, setAll_len S Γ L]
theorem setAll_in {S : Sl} {Γ : List Sl} {k : Nat} (hk : k < Γ.length) : ∀ {L : List Nat}, k ∈ L → (setAll L S Γ)[k]? = some S
  | [], h => by cases h
  | m :: L, h => by
    unfold setAll
    by_cases e : m = k
    · subst e
      rw [List.getElem?_set_self (by rw [setAll_len]; exact hk)]
    · rw [List.getElem?_set_ne e]
      exact setAll_in hk ((List.mem_cons.mp h).resolve_left fun z => e z.symm)
theorem setAll_out {S : Sl} {Γ : List Sl} {k : Nat} : ∀ {L : List Nat}, k ∉ L → (setAll L S Γ)[k]? = Γ[k]?
  | [], _ => rfl
  | m :: L, h => by
    unfold setAll
    have h1 : m ≠ k := fun e => h (by rw [e]; exact List.mem_cons_self)
    rw [List.getElem?_set_ne h1]
    exact setAll_out fun z => h (List.mem_cons_of_mem _ z)
def taVars : List Nat → TA
  | [] => tNil
  | k :: L => tCons (tVar k) (taVars L)
section
variable {T : Tbs} {K : PySem.W.Frag} {σ : L2.St} {G0 H0 F G H : Hp} {Γ Γ' : List Sl} {O : Ow} {R R' : Rp} {i j : Nat} {te tl ta tb tc td : TE} {D : Ends} {t : TT} {tu tw : TS} {α β : Type} [Enc α] [Enc β] {ds : List PyData}
theorem Sat.weakG (s : Sat T G0 H0 F Γ σ G H) (hl : Γ.length = Γ'.length) (hg : ∀ (i : Nat) (S : Sl), Γ'[i]? = some S → S = .un ∨ Γ[i]? = some S) : Sat T G0 H0 F Γ' σ G H := by
  have lk : ∀ {j : Nat} {O1 : Ow}, Γ'[j]? = some (.ow O1) → Γ[j]? = some (.ow O1) := fun {j O1} h => by
    rcases hg j _ h with e | e
    · cases e
    · exact e
  have lm : ∀ {j : Nat} {R : Rp}, Γ'[j]? = some (.im R) → Γ[j]? = some (.im R) := fun {j O1} h => by
    rcases hg j _ h with e | e
    · cases e
    · exact e
  exact ⟨s.nx, s.fl, ⟨by rw [s.im.len, hl], fun i R h => s.im.mo i R (lm h), fun i R h => s.im.at_ i R (lm h)⟩, fun i O h => s.ow i O (lk h), fun i j O O' p hi hj ei ej => s.sep i j O O' p (lk hi) (lk hj) ei ej⟩
/-- what an own object is told of is weakened -/
theorem Sat.owImp {O' : Ow} (s : Sat T G0 H0 F Γ σ G H) (hi : Γ[i]? = some (.ow O)) (h : ∀ G a o, O.P G a o → O'.P G a o) : Sat T G0 H0 F (Γ.set i (.ow O')) σ G H := by
  refine ⟨s.nx, s.fl, s.im.upOw, fun j O1 h1 => ?_, fun j k O1 O2 q hj hk ej ek => ?_⟩
  · rcases get_set h1 with ⟨e1, e, hl⟩ | ⟨e1, e⟩
    · subst e1
      cases e
      obtain ⟨p, o, a, b, c, d, x⟩ := s.ow i O hi
      exact ⟨p, o, a, b, c, d, h _ _ _ x⟩
    · exact s.ow j O1 e
  · have lk : ∀ {j : Nat} {O1 : Ow}, (Γ.set i (.ow O'))[j]? = some (.ow O1) → ∃ O2, Γ[j]? = some (.ow O2) := fun {j O1} h => by
      rcases get_set h with ⟨e1, e, hl⟩ | ⟨e1, e⟩
      · subst e1
        exact ⟨O, hi⟩
      · exact ⟨O1, e⟩
    obtain ⟨A, a⟩ := lk hj
    obtain ⟨B, b⟩ := lk hk
    exact s.sep j k A B q a b ej ek
theorem Sat.toOA {n : Nat} : ∀ {L : List Nat}, (∀ k ∈ L, ∃ ds, Γ[k]? = some (.ow (OL ds)) ∧ ds.length ≤ n) → Sat T G0 H0 F Γ σ G H → Sat T G0 H0 F (setAll L (.ow (OA n)) Γ) σ G H
  | [], _, s => s
  | k :: L, h, s => by
    have s1 := Sat.toOA (fun m hm => h m (List.mem_cons_of_mem _ hm)) s
    obtain ⟨ds, e, hl⟩ := h k List.mem_cons_self
    unfold setAll
    by_cases hk : k ∈ L
    · exact s1.owImp (O := OA n) (setAll_in (List.getElem?_eq_some_iff.mp e).1 hk) fun G _ o z => z
    · refine s1.owImp (O := OL ds) (by rw [setAll_out hk]; exact e) fun G _ o ⟨vs, h1, h2⟩ => ⟨vs, h1, ?_⟩
      rw [da_len h2]
      exact hl
theorem vars_own (s : Sat T G0 H0 F Γ σ G H) : ∀ {L : List Nat} {Q : List V → Hp → Prop}, (∀ k ∈ L, ∃ O, Γ[k]? = some (.ow O)) → (∀ vs : List V, vs.length = L.length → (∀ (i k : Nat), L[i]? = some k → ∃ p : Addr, vs[i]? = some (V.ref p) ∧ σ[k]? = some (some (V.ref p))) → Q vs H) → taVars L σ H Q
  | [], Q, _, c => c [] rfl fun i k h => by simp at h
  | k :: L, Q, h, c => by
    obtain ⟨O, e⟩ := h k List.mem_cons_self
    obtain ⟨p, o, e1, _⟩ := s.ow k O e
    refine ⟨.ref p, e1, vars_own s (fun m hm => h m (List.mem_cons_of_mem _ hm)) fun vs hl hv => c (.ref p :: vs) (congrArg Nat.succ hl) fun i m hm => ?_⟩
    cases i with
    | zero =>
      cases hm
      exact ⟨p, rfl, e1⟩
    | succ i => exact hv i m hm
theorem st_forApp (L : List Nat) (s : Sat T G0 H0 F Γ σ G H) (hL : ∀ k ∈ L, ∃ ds, Γ[k]? = some (.ow (OL ds)) ∧ ds.length ≤ 60000) (hj : j ∉ L) (hjj : ∀ O, Γ[j]? ≠ some (.ow O)) (hz : L.length ≤ 100) (hjl : j < Γ.length) (h : ∀ {σ G}, EvR T te σ G R)
    (c : ∀ σ G H, Sat T G0 H0 F (setAll (j :: L) .un Γ) σ G H → D.nx σ H) : tFor (iTup K (tTup (taVars L))) (gName j) (tDrop (tBM K "list" rAppend (tVar j) (tCons te tNil))) D σ H := by
  refine vars_own s (fun k hk => (hL k hk).elim fun ds e => ⟨_, e.1⟩) fun vs hl hv => ⟨by rw [hl]; exact Nat.le_trans hz (by decide), fun q hq => ?_⟩
  have n1 := Nx.new (o := .tup vs) s.kn hq fun ps z => by cases z
  have s1 := (s.step n1).floor (Ex.refl _)
  refine ⟨q, rfl, ⟨vs, .inl (.inl upd_same)⟩, ?_⟩
  have s2 := (s1.toOA hL)
  have sq : ∀ H', (∃ G', Ex (upd G q (.tup vs)) G' ∧ Ex G' H') → SqT K H' q vs := fun H' ⟨G', e1, e2⟩ => .inl (.inl (e2 _ _ (e1 _ _ upd_same)))
  have w : Walk (Itt K q) L.length (fun H' => ∃ G', Ex (upd G q (.tup vs)) G' ∧ Ex G' H') (YAt vs) := by
    rw [← hl]
    exact (walk_tup (K := K) (a := q) (xs := vs)).mono sq fun _ _ _ _ _ _ y => y
  refine for_it w (fun i σ' H' => ∃ G', Sat T G0 H0 (upd G q (.tup vs)) ((setAll L (.ow (OA (60000 + i))) Γ).set j .un) σ' G' H' ∧ ∀ k ∈ L, σ'[k]? = σ[k]?)
    ⟨_, s2.weakG (by rw [List.length_set]) (fun i S hS => ?_), fun _ _ => rfl⟩ (fun i σ' H' _ ⟨G', s', _⟩ => ⟨G', s'.fl, s'.kn.le⟩) (fun i v σ' H' H'' hi ⟨G', s', same⟩ ⟨e1, e2⟩ => ?_) fun σ' H' ⟨G', s', _⟩ => ?_
  · rcases get_set hS with ⟨_, e, _⟩ | ⟨_, e⟩
    · exact .inl e.symm
    · exact .inr e
  · subst e1
    have hi : i < L.length := hi
    have hk := List.getElem?_eq_getElem hi
    generalize L[i] = k at hk
    have hkL : k ∈ L := List.mem_of_getElem? hk
    obtain ⟨p, hp1, hp2⟩ := hv i k hk
    rw [e2] at hp1
    cases hp1
    have nkj : j ≠ k := fun z => hj (by rw [z]; exact hkL)
    have hkΓ : k < Γ.length := (hL k hkL).elim fun ds e => (List.getElem?_eq_some_iff.mp e.1).1
    have gk : ((setAll L (.ow (OA (60000 + i))) Γ).set j .un)[k]? = some (.ow (OA (60000 + i))) := by
      rw [List.getElem?_set_ne nkj]
      exact setAll_in hkΓ hkL
    -- the slot of the turn holds the list's address
    have s3 : Sat T G0 H0 (upd G q (.tup vs)) ((setAll L (.ow (OA (60000 + i))) Γ).set j .un) (σ'.set j (some (.ref p))) G' H'' := by
      refine ⟨s'.nx, s'.fl, ?_, fun m O hm => ?_, fun m1 m2 O1 O2 r h1 h2 e1 e2 => ?_⟩
      · have z := (s'.im.setUn (i := j) (x := some (.ref p)))
        rw [List.set_set] at z
        exact z
      · rcases get_set hm with ⟨_, e, _⟩ | ⟨ne, e⟩
        · cases e
        · obtain ⟨p', o, a, b⟩ := s'.ow m O hm
          exact ⟨p', o, by rw [List.getElem?_set_ne ne]; exact a, b⟩
      · have nj : ∀ {m O}, ((setAll L (.ow (OA (60000 + i))) Γ).set j .un)[m]? = some (.ow O) → j ≠ m := fun {m O} hm => by
          rcases get_set hm with ⟨_, e, _⟩ | ⟨ne, e⟩
          · cases e
          · exact ne
        rw [List.getElem?_set_ne (nj h1)] at e1
        rw [List.getElem?_set_ne (nj h2)] at e2
        exact s'.sep m1 m2 O1 O2 r h1 h2 e1 e2
    have ek : (σ'.set j (some (.ref p)))[k]? = some (some (.ref p)) := by
      rw [List.getElem?_set_ne nkj, same k hkL]
      exact hp2
    have ej : (σ'.set j (some (.ref p)))[j]? = some (some (.ref p)) := List.getElem?_set_self (by
      have := s'.im.len
      rw [List.length_set, setAll_len] at this
      omega)
    obtain ⟨p', o, b1, b2, b3, b4, us, rfl, hus⟩ := s3.ow k _ gk
    rw [ek] at b1
    cases b1
    refine ⟨.ref p, ej, tyV_lst b4, h H'' s3.kn _ fun v G4 H4 n4 r4 => ?_⟩
    have s4 := s3.step n4
    obtain ⟨y1, y2⟩ := stays n4 b3 b4 nt_lst nu_lst
    refine ⟨p, us, v, rfl, rfl, y2, Nat.lt_of_lt_of_le (show us.length < 100000 by omega) (by decide), ?_⟩
    have s5 := s4.mut (O' := OA (60000 + (i + 1))) gk ek (show (OA (60000 + (i + 1))).P G4 p (.lst (us ++ [v])) from ⟨_, rfl, by rw [List.length_append]; show us.length + 1 ≤ _; omega⟩)
    -- the others, too
    have up : ∀ {M : List Nat}, (∀ m ∈ M, m ∈ L) → ∀ {Γ1 : List Sl}, (∀ m ∈ L, Γ1[m]? = some (.ow (OA (60000 + i))) ∨ Γ1[m]? = some (.ow (OA (60000 + (i + 1))))) → Sat T G0 H0 (upd G q (.tup vs)) Γ1 (σ'.set j (some (.ref p))) G4 (upd H4 p (.lst (us ++ [v]))) → Sat T G0 H0 (upd G q (.tup vs)) (setAll M (.ow (OA (60000 + (i + 1)))) Γ1) (σ'.set j (some (.ref p))) G4 (upd H4 p (.lst (us ++ [v]))) := by
      intro M
      induction M with
      | nil => intro _ Γ1 _ z; exact z
      | cons m M ih =>
        intro hM Γ1 hΓ z
        have z1 := ih (fun x hx => hM x (List.mem_cons_of_mem _ hx)) hΓ z
        unfold setAll
        have hml : m < Γ1.length := by
          rcases hΓ m (hM m List.mem_cons_self) with e | e
          · exact (List.getElem?_eq_some_iff.mp e).1
          · exact (List.getElem?_eq_some_iff.mp e).1
        by_cases hm : m ∈ M
        · exact z1.owImp (setAll_in hml hm) fun _ _ _ y => y
        · rcases hΓ m (hM m List.mem_cons_self) with e | e
          · exact z1.owImp (O := OA (60000 + i)) (by rw [setAll_out hm]; exact e) fun _ _ _ ⟨w, y1, y2⟩ => ⟨w, y1, by omega⟩
          · exact z1.owImp (by rw [setAll_out hm]; exact e) fun _ _ _ y => y
    have s6 := up (M := L) (fun _ h => h) (fun m hm => by
      have nm : j ≠ m := fun z => hj (by rw [z]; exact hm)
      by_cases e : k = m
      · subst e
        exact .inr (List.getElem?_set_self (by rw [List.length_set, setAll_len]; exact hkΓ))
      · have hmΓ : m < Γ.length := (hL m hm).elim fun ds e => (List.getElem?_eq_some_iff.mp e.1).1
        exact .inl (by rw [List.getElem?_set_ne e, List.getElem?_set_ne nm]; exact setAll_in hmΓ hm)) s5
    refine ⟨G4, s6.weakG (by rw [setAll_len, List.length_set, List.length_set, setAll_len, List.length_set, setAll_len]) (fun m S hS => ?_), fun m hm => ?_⟩
    · rcases get_set hS with ⟨_, e, _⟩ | ⟨ne, e⟩
      · exact .inl e.symm
      · by_cases hm : m ∈ L
        · have hmΓ : m < Γ.length := (hL m hm).elim fun ds e => (List.getElem?_eq_some_iff.mp e.1).1
          rw [setAll_in hmΓ hm] at e
          refine .inr ?_
          rw [setAll_in (by rw [List.length_set, List.length_set, setAll_len]; exact hmΓ) hm]
          exact e
        · rw [setAll_out hm] at e
          refine .inr ?_
          have nk : k ≠ m := fun z => hm (by rw [← z]; exact hkL)
          rw [setAll_out hm, List.getElem?_set_ne nk, List.getElem?_set_ne ne, setAll_out hm]
          exact e
    · have nm : j ≠ m := fun z => hj (by rw [z]; exact hm)
      rw [List.getElem?_set_ne nm]
      exact same m hm
  · refine c σ' G' H' ((s'.floor ((s.fl.trans n1.ex).trans s'.fl)).weakG (by rw [setAll_len, List.length_set, setAll_len]) fun m S hS => ?_)
    by_cases hm : m ∈ j :: L
    · by_cases hml : m < Γ.length
      · rw [setAll_in hml hm] at hS
        exact .inl (Option.some.inj hS).symm
      · have := (List.getElem?_eq_some_iff.mp hS).1
        rw [setAll_len] at this
        omega
    · rw [setAll_out hm] at hS
      have h1 : j ≠ m := fun z => hm (by rw [z]; exact List.mem_cons_self)
      refine .inr ?_
      rw [List.getElem?_set_ne h1, setAll_out fun z => hm (List.mem_cons_of_mem _ z)]
      exact hS
end
end Ho

set_option Elab.async false
set_option linter.all false
set_option maxRecDepth 100000
namespace Ru
open PySem PySem.Spec PySem.Calls PyProof.Rows L2 LamX NdefX
/-- xs[a:b] = ys -/
def gSlc (to : TE) (tl th : TO) : TG := fun v σ H Q => to σ H fun o H1 => tl σ H1 fun a H2 => th σ H2 fun b H3 => ∃ (l p : Addr) (xs ys : List V) (i j : Int), o = .ref l ∧ v = .ref p ∧ H3 l = some (.lst xs) ∧ H3 p = some (.lst ys) ∧ l ≠ p ∧ a = some i ∧ b = some j ∧ 0 ≤ i ∧ i ≤ j ∧ j ≤ (xs.length : Int) ∧ xs.length + ys.length ≤ sizeLine ∧
  Q σ (upd H3 l (.lst (xs.take i.toNat ++ ys ++ xs.drop j.toNat)))
section
variable {X : Cx} {K : PySem.W.Frag} {o : Expr} {lo hi : Option Expr} {to : TE} {tl th : TO} {p2 pos : Pos}
theorem pg_slc (ho : PE X o to) (hl : PO X lo tl) (hu : PO X hi th) : PG X (.Subscript o (.Slice lo hi none p2) pos) (gSlc to tl th) := by
  constructor
  intro pins s σ H v u Q I r h
  unfold assign
  refine wpAny_bind (wpAny_holding (thn (ho.run pins s σ H _ I h) ?_))
  rintro ov s1 ⟨x, H1, I1, r1, q1⟩
  refine wpAny_bind (wpAny_holding ?_)
  refine wpAny_Slice (thn (hl.run pins s1 σ H1 _ I1 q1) ?_)
  rintro vl s2 ⟨a, H2, I2, pl, q2⟩
  refine thn (hu.run pins s2 σ H2 _ I2 q2) ?_
  rintro vu s3 ⟨b, H3, I3, pu, q3⟩
  rw [evalPart_none]
  refine wpAny_pure ?_
  have I4 : Inv X pins σ H3 { s3 with heap := s3.heap.push { cls := .type "slice", data := .fields #[vl, vu, .none] } } := I3.kept (t' := s3.toks) fun _ _ z => Heap.get?_push_of_some _ z
  obtain ⟨l, p, xs, ys, i, j, rfl, rfl, e1, e2, ne, rfl, rfl, h0, h1, h2, hz, q⟩ := q3
  cases r1
  cases r
  refine wpAny_bind (wpAny_standAt (wpAny_bind (wpAny_holding ?_)))
  cases pl with
  | int _ t1 =>
    cases pu with
    | int _ t2 =>
      refine set_slice I4 e1 e2 ne (Heap.IsSliceOf.new ..) ⟨_, rfl⟩ ⟨_, rfl⟩ h0 h1 h2 hz fun s5 I5 => ?_
      exact wpAny_release ⟨σ, _, I5, q⟩
/-- max(xs, default=d), xs of whole numbers -/
def rMaxD (K : PySem.W.Frag) : List V → List V → Hp → VK → Prop := fun vs zs H Q => ∃ (a : Addr) (ns : List Int) (d : Int), vs = [V.ref a] ∧ zs = [V.int d] ∧ SqL K H a (ns.map V.int) ∧ ∀ m : Int, (ns = [] → m = d) → (ns ≠ [] → m ∈ ns ∧ ∀ n ∈ ns, n ≤ m) → Q (.int m) H
theorem maxOf_mem : ∀ (xs : List Int) (x : Int), PySem.W.maxOf x xs ∈ x :: xs ∧ ∀ n ∈ x :: xs, n ≤ PySem.W.maxOf x xs
  | [], x => ⟨List.mem_cons_self, fun n hn => by
    cases List.mem_singleton.mp hn
    exact Int.le_refl _⟩
  | y :: ys, x => by
    have e : PySem.W.maxOf x (y :: ys) = PySem.W.maxOf (if PySem.W.DatumOrd.lt x y = true then y else x) ys := rfl
    have lt_ : PySem.W.DatumOrd.lt x y = true ↔ x < y := by
      first
        | exact decide_eq_true_iff
        | (show decide (x < y) = true ↔ x < y; exact decide_eq_true_iff)
    obtain ⟨a, b⟩ := maxOf_mem ys (if PySem.W.DatumOrd.lt x y = true then y else x)
    rw [e]
    by_cases c : PySem.W.DatumOrd.lt x y = true
    · rw [if_pos c] at a b ⊢
      have := lt_.mp c
      refine ⟨List.mem_cons_of_mem _ a, fun n hn => ?_⟩
      rcases List.mem_cons.mp hn with z | z
      · have := b y List.mem_cons_self
        omega
      · exact b n z
    · rw [if_neg c] at a b ⊢
      have hc : ¬ x < y := fun z => c (lt_.mpr z)
      refine ⟨?_, fun n hn => ?_⟩
      · rcases List.mem_cons.mp a with z | z
        · rw [z]
          exact List.mem_cons_self
        · exact List.mem_cons_of_mem _ (List.mem_cons_of_mem _ z)
      · have hx := b x List.mem_cons_self
        rcases List.mem_cons.mp hn with z | z
        · omega
        rcases List.mem_cons.mp z with z | z
        · omega
        · exact b n (List.mem_cons_of_mem _ z)
theorem holdAll_ints {h : Heap} : ∀ {vs : List Value} {ns : List Int}, IntsAre vs ns → PySem.W.HoldAll h vs ns
  | _, _, .nil => PySem.W.HoldAll.nil
  | _, _, .cons n t hr => PySem.W.HoldAll.cons ⟨_, Reads.int n t⟩ (holdAll_ints hr)
theorem cr_maxD (hc : X.calm = true) (hu : X.A.units + 64 < cLine) : CallRK X (.builtin "max") [Str.ofString "default"] (rMaxD X.K) := by
  intro pins s σ H vs zs us ws Q I r rz h
  obtain ⟨a, ns, d, rfl, rfl, hs, q⟩ := h
  obtain rfl := Vals.ref1 r
  obtain ⟨w1, rfl, t, rfl⟩ := vals1 rz
  obtain ⟨its, rv, hl, hz⟩ := I.list hs
  have hI := rv.ints
  have hd : PySem.W.Datum.depth Int = 0 := rfl
  refine PySem.W.max_list_datum_default (xs := ns) (I.ok.hd hc) hl.isList (by simpa using holdAll_ints hI) (by rw [hd]; omega) (fun e h' tk hk => ?_) fun y ys i v h' tk e hi hv hk => ?_
  · exact ⟨.int d, H, I.kept (t' := tk) hk, ⟨_, rfl⟩, q d (fun _ => rfl) fun z => absurd e z⟩
  · obtain ⟨m1, m2⟩ := maxOf_mem ys y
    obtain ⟨as, hv⟩ := hv
    have hv : Reads h' v (.int (PySem.W.maxOf y ys)) as := hv
    cases hv with
    | int _ t2 => exact ⟨.int _, H, I.kept (t' := tk) hk, ⟨_, rfl⟩, q _ (fun z => by rw [e] at z; cases z) fun _ => by rw [e]; exact ⟨m1, m2⟩⟩
theorem cr_maxDK (h : X.K = K) (hc : X.calm = true) (hu : X.A.units + 64 < cLine) : CallRK X (.builtin "max") [Str.ofString "default"] (rMaxD K) := h ▸ cr_maxD hc hu
end
end Ru

set_option linter.all false
namespace Sw
def pii (p : Int) (i : Nat) : Nat := if i + 1 = p.toNat then p.toNat else if i = p.toNat then p.toNat - 1 else i
variable {n : Nat} {r : List Int} {p q : Int} {i : Nat}
theorem sw_pii (h1 : 1 ≤ p) (h2 : p < (r.length : Int)) (i : Nat) : (sw r p)[i]? = r[pii p i]? := by
  rw [sw_get h1 h2]
  unfold pii
  split
  · rfl
  · split
    · congr 1
      omega
    · rfl
theorem pii_pii (h1 : 1 ≤ p) (i : Nat) : pii p (pii p i) = i := by
  unfold pii
  repeat' split
  all_goals omega
theorem wkd_app (r ps qs : List Int) : wkd r (ps ++ qs) = wkd (wkd r ps) qs := List.foldl_append
theorem sw_comm (p1 : 1 ≤ p) (p2 : p < (r.length : Int)) (q1 : 1 ≤ q) (q2 : q < (r.length : Int)) (h : p + 2 ≤ q ∨ q + 2 ≤ p) : sw (sw r p) q = sw (sw r q) p := by
  refine List.ext_getElem? fun i => ?_
  rw [sw_pii q1 (by rw [sw_len p1 p2]; exact q2), sw_pii p1 p2, sw_pii p1 (by rw [sw_len q1 q2]; exact p2), sw_pii q1 q2]
  congr 1
  unfold pii
  repeat' split
  all_goals omega
theorem pii_a (h : i + 1 = p.toNat) : pii p i = p.toNat := if_pos h
theorem pii_b (h : i = p.toNat) : pii p i = p.toNat - 1 := by
  unfold pii
  rw [if_neg (by omega), if_pos h]
theorem pii_c (h : i + 1 ≠ p.toNat) (h2 : i ≠ p.toNat) : pii p i = i := by
  unfold pii
  rw [if_neg h, if_neg h2]
theorem pii_braid {p q : Int} (p1 : 1 ≤ p) (h : p + 1 = q) (i : Nat) : pii p (pii q (pii p i)) = pii q (pii p (pii q i)) := by
  by_cases a : i + 1 = p.toNat
  · rw [pii_a a, pii_a (p := q) (i := p.toNat) (by omega), pii_c (p := p) (i := q.toNat) (by omega) (by omega), pii_c (p := q) (i := i) (by omega) (by omega), pii_a a, pii_a (p := q) (i := p.toNat) (by omega)]
  by_cases b : i = p.toNat
  · rw [pii_b b, pii_c (p := q) (i := p.toNat - 1) (by omega) (by omega), pii_a (p := p) (i := p.toNat - 1) (by omega), pii_a (p := q) (i := i) (by omega), pii_c (p := p) (i := q.toNat) (by omega) (by omega), pii_b (p := q) (i := q.toNat) rfl]
    omega
  by_cases c : i = q.toNat
  · rw [pii_c (p := p) (i := i) a b, pii_b c, pii_b (p := p) (i := q.toNat - 1) (by omega), pii_c (p := q) (i := p.toNat - 1) (by omega) (by omega)]
  · rw [pii_c (p := p) (i := i) a b, pii_c (p := q) (i := i) (by omega) c, pii_c (p := p) (i := i) a b, pii_c (p := q) (i := i) (by omega) c]
theorem sw_braid (p1 : 1 ≤ p) (p2 : p < (r.length : Int)) (q1 : 1 ≤ q) (q2 : q < (r.length : Int)) (h : p + 1 = q ∨ q + 1 = p) : sw (sw (sw r p) q) p = sw (sw (sw r q) p) q := by
  have lp := sw_len (r := r) p1 p2
  have lq := sw_len (r := r) q1 q2
  have lpq := sw_len (r := sw r p) (p := q) q1 (by rw [lp]; exact q2)
  have lqp := sw_len (r := sw r q) (p := p) p1 (by rw [lq]; exact p2)
  refine List.ext_getElem? fun i => ?_
  rw [sw_pii p1 (by rw [lpq, lp]; exact p2), sw_pii q1 (by rw [lp]; exact q2), sw_pii p1 p2, sw_pii q1 (by rw [lqp, lq]; exact q2), sw_pii p1 (by rw [lq]; exact p2), sw_pii q1 q2]
  congr 1
  rcases h with h | h
  · exact pii_braid p1 h i
  · exact (pii_braid q1 h i).symm
/-- where a thing stands behind a swap -/
theorem idx_sw (R : Row n r) (p1 : 1 ≤ p) (p2 : p < (n : Int)) {x : Int} (hx : x ∈ r) : (sw r p).idxOf x = pii p (r.idxOf x) := by
  have hl := R.len
  have R2 := sw_row R p1 p2
  have hi : r.idxOf x < r.length := List.idxOf_lt_length_of_mem hx
  have e : (sw r p)[pii p (r.idxOf x)]? = some x := by
    rw [sw_pii p1 (by omega), pii_pii p1, List.getElem?_eq_getElem hi, List.getElem_idxOf]
  have hx2 : x ∈ sw r p := List.mem_of_getElem? e
  have e2 : (sw r p)[(sw r p).idxOf x]? = some x := by
    rw [List.getElem?_eq_getElem (List.idxOf_lt_length_of_mem hx2), List.getElem_idxOf]
  exact (List.getElem?_inj (List.idxOf_lt_length_of_mem hx2) R2.nodup).mp (e2.trans e.symm)
theorem ga_idx (R : Row n r) {i : Int} (h0 : 0 ≤ i) (h1 : i < (n : Int)) : ga r i ∈ r ∧ r.idxOf (ga r i) = i.toNat := by
  have hl := R.len
  have e := ga_at (r := r) (i := i) h0 (by omega)
  have hm := List.mem_of_getElem? e
  refine ⟨hm, ?_⟩
  have e2 : r[r.idxOf (ga r i)]? = some (ga r i) := by
    rw [List.getElem?_eq_getElem (List.idxOf_lt_length_of_mem hm), List.getElem_idxOf]
  exact (List.getElem?_inj (List.idxOf_lt_length_of_mem hm) R.nodup).mp (e2.trans e.symm)
theorem bef_sw (R : Row n r) (p1 : 1 ≤ p) (p2 : p < (n : Int)) {x y : Int} : Bef (sw r p) x y ↔ (Bef r x y ∧ ¬ (x = ga r (p - 1) ∧ y = ga r p)) ∨ (x = ga r p ∧ y = ga r (p - 1)) := by
  have hl := R.len
  have R2 := sw_row R p1 p2
  obtain ⟨ma, ia⟩ := ga_idx R (i := p - 1) (by omega) (by omega)
  obtain ⟨mb, ib⟩ := ga_idx R (i := p) (by omega) (by omega)
  constructor
  · intro h
    have hx : x ∈ r := (sw_perm p1 (by omega)).mem_iff.mp h.left
    have hy : y ∈ r := (sw_perm p1 (by omega)).mem_iff.mp h.2
    have h1 := h.1
    rw [idx_sw R p1 p2 hx, idx_sw R p1 p2 hy] at h1
    have ex : x = ga r p ↔ r.idxOf x = p.toNat := ⟨fun e => by rw [e, ib], fun e => idx_inj hx (by rw [e, ib])⟩
    have ex' : x = ga r (p - 1) ↔ r.idxOf x = (p - 1).toNat := ⟨fun e => by rw [e, ia], fun e => idx_inj hx (by rw [e, ia])⟩
    have ey : y = ga r p ↔ r.idxOf y = p.toNat := ⟨fun e => by rw [e, ib], fun e => idx_inj hy (by rw [e, ib])⟩
    have ey' : y = ga r (p - 1) ↔ r.idxOf y = (p - 1).toNat := ⟨fun e => by rw [e, ia], fun e => idx_inj hy (by rw [e, ia])⟩
    rw [ex, ex', ey, ey']
    unfold pii at h1
    unfold Bef
    by_cases c : r.idxOf x = p.toNat ∧ r.idxOf y = (p - 1).toNat
    · exact .inr c
    · refine .inl ⟨⟨?_, hy⟩, ?_⟩
      · revert h1
        repeat' split
        all_goals omega
      · revert h1
        repeat' split
        all_goals omega
  · rintro (⟨h, hn⟩ | ⟨rfl, rfl⟩)
    · have hx := h.left
      have hy := h.2
      refine ⟨?_, (sw_perm p1 (by omega)).mem_iff.mpr hy⟩
      rw [idx_sw R p1 p2 hx, idx_sw R p1 p2 hy]
      have ex' : x = ga r (p - 1) ↔ r.idxOf x = (p - 1).toNat := ⟨fun e => by rw [e, ia], fun e => idx_inj hx (by rw [e, ia])⟩
      have ey : y = ga r p ↔ r.idxOf y = p.toNat := ⟨fun e => by rw [e, ib], fun e => idx_inj hy (by rw [e, ib])⟩
      rw [ex', ey] at hn
      have h1 := h.1
      unfold pii
      repeat' split
      all_goals omega
    · refine ⟨?_, (sw_perm p1 (by omega)).mem_iff.mpr ma⟩
      rw [idx_sw R p1 p2 mb, idx_sw R p1 p2 ma, ia, ib]
      unfold pii
      repeat' split
      all_goals omega
/-- a swap that goes up turns just its pair -/
theorem inv_up (R : Row n r) (p1 : 1 ≤ p) (p2 : p < (n : Int)) (up : ga r (p - 1) < ga r p) (a b : Int) : Inv (sw r p) a b ↔ Inv r a b ∨ (a = ga r (p - 1) ∧ b = ga r p) := by
  unfold Inv
  rw [bef_sw R p1 p2]
  constructor
  · rintro ⟨h, (⟨h1, _⟩ | ⟨rfl, rfl⟩)⟩
    · exact .inl ⟨h, h1⟩
    · exact .inr ⟨rfl, rfl⟩
  · rintro (⟨h, h1⟩ | ⟨rfl, rfl⟩)
    · refine ⟨h, .inl ⟨h1, ?_⟩⟩
      rintro ⟨rfl, rfl⟩
      omega
    · exact ⟨up, .inr ⟨rfl, rfl⟩⟩
theorem not_inv_up (R : Row n r) (p1 : 1 ≤ p) (p2 : p < (n : Int)) : ¬ Inv r (ga r (p - 1)) (ga r p) := fun h => by
  obtain ⟨ma, ia⟩ := ga_idx R (i := p - 1) (by omega) (by omega)
  obtain ⟨mb, ib⟩ := ga_idx R (i := p) (by omega) (by omega)
  have := h.2.1
  omega
theorem tp_up (R : Row n r) (p1 : 1 ≤ p) (p2 : p < (n : Int)) (up : ga r (p - 1) < ga r p) : (tp (sw r p)).Perm ((ga r (p - 1), ga r p) :: tp r) := by
  have R2 := sw_row R p1 p2
  refine perm_of_mem (nodup_tp R2.nodup) (List.nodup_cons.mpr ⟨fun h => not_inv_up R p1 p2 ((mem_tp R.nodup _ _).mp h), nodup_tp R.nodup⟩) fun ⟨a, b⟩ => ?_
  rw [mem_tp R2.nodup, inv_up R p1 p2 up, List.mem_cons, mem_tp R.nodup, Prod.mk.injEq]
  exact Or.comm
theorem len_up (R : Row n r) (p1 : 1 ≤ p) (p2 : p < (n : Int)) (up : ga r (p - 1) < ga r p) : (tp (sw r p)).length = (tp r).length + 1 := (tp_up R p1 p2 up).length_eq
theorem ga_sw (R : Row n r) (p1 : 1 ≤ p) (p2 : p < (n : Int)) : ga (sw r p) (p - 1) = ga r p ∧ ga (sw r p) p = ga r (p - 1) := by
  have hl := R.len
  have h2 : p < (r.length : Int) := by omega
  refine ⟨?_, ?_⟩
  · unfold ga
    rw [sw_get p1 h2, if_pos (by omega)]
  · unfold ga
    rw [sw_get p1 h2, if_neg (by omega), if_pos rfl]
theorem len_down (R : Row n r) (p1 : 1 ≤ p) (p2 : p < (n : Int)) (dn : ga r p < ga r (p - 1)) : (tp r).length = (tp (sw r p)).length + 1 := by
  obtain ⟨e1, e2⟩ := ga_sw R p1 p2
  have h := len_up (sw_row R p1 p2) p1 p2 (by rw [e1, e2]; exact dn)
  rw [sw_sw p1 (by rw [R.len]; exact p2)] at h
  exact h
theorem tp_rng (n : Nat) : tp (rng n) = [] := by
  have nd : (rng n).Nodup := nodup_rngI _ _
  have h : ∀ x, x ∉ tp (rng n) := fun ⟨a, b⟩ hm => by
    have i := (mem_tp nd a b).mp hm
    have pw : (rng n).Pairwise (fun x y => x < y) := by
      unfold rng rngI
      rw [List.pairwise_map]
      exact List.pairwise_lt_range.imp fun h => by omega
    have := pw_idx pw i.2
    have := i.1
    omega
  cases e : tp (rng n) with
  | nil => rfl
  | cons x xs => exact absurd (show x ∈ tp (rng n) by rw [e]; exact List.mem_cons_self) (h x)
/-- fewer pairs than swaps, never more -/
theorem len_wkd : ∀ {ps : List Int} {r : List Int}, Row n r → (∀ p ∈ ps, 1 ≤ p ∧ p < (n : Int)) → (tp (wkd r ps)).length ≤ (tp r).length + ps.length
  | [], _, _, _ => Nat.le_refl _
  | p :: ps, r, R, h => by
    obtain ⟨p1, p2⟩ := h p List.mem_cons_self
    have ih := len_wkd (ps := ps) (sw_row R p1 p2) fun q hq => h q (List.mem_cons_of_mem _ hq)
    show (tp (wkd (sw r p) ps)).length ≤ _
    rw [List.length_cons]
    rcases Int.lt_or_gt_of_ne (ga_ne R p1 p2) with c | c
    · have := len_up R p1 p2 c
      omega
    · have := len_down R p1 p2 c
      omega
end Sw

set_option linter.all false
namespace Sw
inductive Kd where
  | side
  | turn
  | drop
deriving DecidableEq
abbrev Mv := Kd × Int
def dif (a b : Int) : Int := if a - b < 0 then -(a - b) else a - b
theorem dif_two {a b : Int} : 2 ≤ dif a b ↔ a + 2 ≤ b ∨ b + 2 ≤ a := by
  unfold dif
  split <;> omega
theorem dif_one {a b : Int} : dif a b = 1 ↔ a + 1 = b ∨ b + 1 = a := by
  unfold dif
  split <;> omega
theorem dif_comm (a b : Int) : dif a b = dif b a := by
  unfold dif
  split <;> split <;> omega
/-- the word behind a move -/
def aft (w : List Int) (m : Mv) : Option (List Int) :=
  if m.2 < 0 ∨ (w.length : Int) < m.2 + 2 then none
  else match m.1 with
    | .side => if 2 ≤ dif (ga w m.2) (ga w (m.2 + 1)) then some (w.take m.2.toNat ++ [ga w (m.2 + 1), ga w m.2] ++ w.drop (m.2 + 2).toNat) else none
    | .drop => if ga w m.2 = ga w (m.2 + 1) then some (w.take m.2.toNat ++ w.drop (m.2 + 2).toNat) else none
    | .turn => if m.2 + 3 ≤ (w.length : Int) ∧ ga w m.2 = ga w (m.2 + 2) ∧ dif (ga w m.2) (ga w (m.2 + 1)) = 1 then some (w.take m.2.toNat ++ [ga w (m.2 + 1), ga w m.2, ga w (m.2 + 1)] ++ w.drop (m.2 + 3).toNat) else none
inductive Stp : List Int → Mv → List Int → Prop
  | side (P : List Int) (a b : Int) (Q : List Int) : 2 ≤ dif a b → Stp (P ++ a :: b :: Q) (.side, (P.length : Int)) (P ++ b :: a :: Q)
  | turn (P : List Int) (a b : Int) (Q : List Int) : dif a b = 1 → Stp (P ++ a :: b :: a :: Q) (.turn, (P.length : Int)) (P ++ b :: a :: b :: Q)
  | drop (P : List Int) (a : Int) (Q : List Int) : Stp (P ++ a :: a :: Q) (.drop, (P.length : Int)) (P ++ Q)
theorem ga_mid (P : List Int) (Q : List Int) (k : Nat) : ga (P ++ Q) ((P.length : Int) + (k : Int)) = ga Q (k : Int) := by
  unfold ga
  have e : ((P.length : Int) + (k : Int)).toNat = P.length + k := by omega
  rw [e, List.getElem?_append_right (by omega)]
  have e2 : (k : Int).toNat = P.length + k - P.length := by omega
  rw [e2]
theorem aft_of {w w' : List Int} {m : Mv} (h : Stp w m w') : aft w m = some w' := by
  cases h with
  | side P a b Q h =>
    have e0 := ga_mid P (a :: b :: Q) 0
    have e1 := ga_mid P (a :: b :: Q) 1
    have g0 : ga (P ++ a :: b :: Q) (P.length : Int) = a := by
      rw [← Int.add_zero (P.length : Int)]
      exact e0
    have g1 : ga (P ++ a :: b :: Q) ((P.length : Int) + 1) = b := e1
    unfold aft
    rw [if_neg (by simp; omega)]
    show (if 2 ≤ dif (ga (P ++ a :: b :: Q) (P.length : Int)) (ga (P ++ a :: b :: Q) ((P.length : Int) + 1)) then _ else _) = _
    rw [g0, g1, if_pos h]
    have t1 : (P.length : Int).toNat = P.length := by omega
    have t2 : ((P.length : Int) + 2).toNat = P.length + 2 := by omega
    simp only [t1, t2, g0, g1]
    rw [List.take_left, List.drop_append]
    simp
  | turn P a b Q h =>
    have g0 : ga (P ++ a :: b :: a :: Q) (P.length : Int) = a := by
      rw [← Int.add_zero (P.length : Int)]
      exact ga_mid P (a :: b :: a :: Q) 0
    have g1 : ga (P ++ a :: b :: a :: Q) ((P.length : Int) + 1) = b := ga_mid P (a :: b :: a :: Q) 1
    have g2 : ga (P ++ a :: b :: a :: Q) ((P.length : Int) + 2) = a := ga_mid P (a :: b :: a :: Q) 2
    unfold aft
    rw [if_neg (by simp; omega)]
    have t1 : (P.length : Int).toNat = P.length := by omega
    have t2 : ((P.length : Int) + 3).toNat = P.length + 3 := by omega
    simp only [t1, t2, g0, g1, g2]
    rw [if_pos (by refine ⟨by simp; omega, ?_⟩; simpa using h), List.take_left, List.drop_append]
    simp
  | drop P a Q =>
    have g0 : ga (P ++ a :: a :: Q) (P.length : Int) = a := by
      rw [← Int.add_zero (P.length : Int)]
      exact ga_mid P (a :: a :: Q) 0
    have g1 : ga (P ++ a :: a :: Q) ((P.length : Int) + 1) = a := ga_mid P (a :: a :: Q) 1
    unfold aft
    rw [if_neg (by simp; omega)]
    have t1 : (P.length : Int).toNat = P.length := by omega
    have t2 : ((P.length : Int) + 2).toNat = P.length + 2 := by omega
    simp only [t1, t2, g0, g1]
    rw [if_pos trivial, List.take_left, List.drop_append]
    simp
theorem split_at {w : List Int} {i : Int} (h0 : 0 ≤ i) (h1 : i < (w.length : Int)) : w.drop i.toNat = ga w i :: w.drop (i + 1).toNat := by
  have e := ga_at h0 h1
  have e2 : (i + 1).toNat = i.toNat + 1 := by omega
  rw [e2, List.drop_eq_getElem_cons (by omega)]
  congr 1
  rw [List.getElem?_eq_getElem (by omega)] at e
  exact Option.some.inj e
theorem stp_of {w w' : List Int} {m : Mv} (h : aft w m = some w') : Stp w m w' := by
  unfold aft at h
  split at h
  · cases h
  rename_i hc
  obtain ⟨k, i⟩ := m
  have h0 : 0 ≤ i := by
    have : ¬ (i < 0) := fun z => hc (.inl z)
    omega
  have h2 : i + 2 ≤ (w.length : Int) := by
    have : ¬ ((w.length : Int) < i + 2) := fun z => hc (.inr z)
    omega
  have ew : w = w.take i.toNat ++ ga w i :: ga w (i + 1) :: w.drop (i + 2).toNat := by
    have e1 := split_at (w := w) (i := i) h0 (by omega)
    have e2 := split_at (w := w) (i := i + 1) (by omega) (by omega)
    have e3 : i + 1 + 1 = i + 2 := by omega
    rw [e3] at e2
    rw [← e2, ← e1, List.take_append_drop]
  have el : ((w.take i.toNat).length : Int) = i := by
    rw [List.length_take]
    omega
  cases k with
  | side =>
    simp only at h
    split at h
    · rename_i hd
      cases h
      have z := Stp.side (w.take i.toNat) (ga w i) (ga w (i + 1)) (w.drop (i + 2).toNat) hd
      rw [← ew, el] at z
      rw [List.append_assoc]
      exact z
    · cases h
  | drop =>
    simp only at h
    split at h
    · rename_i hd
      cases h
      have z := Stp.drop (w.take i.toNat) (ga w i) (w.drop (i + 2).toNat)
      rw [← hd] at ew
      rw [← ew, el] at z
      exact z
    · cases h
  | turn =>
    simp only at h
    split at h
    · rename_i hd
      obtain ⟨h3, ha, hd⟩ := hd
      cases h
      have e4 := split_at (w := w) (i := i + 2) (by omega) (by omega)
      have e5 : i + 2 + 1 = i + 3 := by omega
      rw [e5, ← ha] at e4
      have z := Stp.turn (w.take i.toNat) (ga w i) (ga w (i + 1)) (w.drop (i + 3).toNat) hd
      rw [← e4, ← ew, el] at z
      rw [List.append_assoc]
      exact z
    · cases h
def Ok (n : Nat) (w : List Int) : Prop := ∀ p ∈ w, 1 ≤ p ∧ p < (n : Int)
theorem Ok.app {n : Nat} {x y : List Int} : Ok n (x ++ y) ↔ Ok n x ∧ Ok n y := by
  unfold Ok
  constructor
  · exact fun h => ⟨fun p hp => h p (List.mem_append_left _ hp), fun p hp => h p (List.mem_append_right _ hp)⟩
  · rintro ⟨h1, h2⟩ p hp
    rcases List.mem_append.mp hp with z | z
    · exact h1 p z
    · exact h2 p z
variable {n : Nat} {r : List Int}
theorem stp_row {w w' : List Int} {m : Mv} (h : Stp w m w') (R : Row n r) (hw : Ok n w) : wkd r w' = wkd r w ∧ Ok n w' := by
  cases h with
  | side P a b Q h =>
    obtain ⟨hP, hQ⟩ := Ok.app.mp hw
    have ha := hQ a List.mem_cons_self
    have hb := hQ b (List.mem_cons_of_mem _ List.mem_cons_self)
    have R2 := wkd_row R hP
    have l2 := R2.len
    refine ⟨?_, Ok.app.mpr ⟨hP, fun p hp => ?_⟩⟩
    · rw [wkd_app, wkd_app]
      show wkd (sw (sw (wkd r P) b) a) Q = wkd (sw (sw (wkd r P) a) b) Q
      rw [sw_comm ha.1 (by omega) hb.1 (by omega) (dif_two.mp h)]
    · rcases List.mem_cons.mp hp with z | hp
      · exact z ▸ hb
      rcases List.mem_cons.mp hp with z | hp
      · exact z ▸ ha
      · exact hQ p (List.mem_cons_of_mem _ (List.mem_cons_of_mem _ hp))
  | turn P a b Q h =>
    obtain ⟨hP, hQ⟩ := Ok.app.mp hw
    have ha := hQ a List.mem_cons_self
    have hb := hQ b (List.mem_cons_of_mem _ List.mem_cons_self)
    have R2 := wkd_row R hP
    have l2 := R2.len
    refine ⟨?_, Ok.app.mpr ⟨hP, fun p hp => ?_⟩⟩
    · rw [wkd_app, wkd_app]
      show wkd (sw (sw (sw (wkd r P) b) a) b) Q = wkd (sw (sw (sw (wkd r P) a) b) a) Q
      rw [sw_braid ha.1 (by omega) hb.1 (by omega) (dif_one.mp h)]
    · rcases List.mem_cons.mp hp with z | hp
      · exact z ▸ hb
      rcases List.mem_cons.mp hp with z | hp
      · exact z ▸ ha
      rcases List.mem_cons.mp hp with z | hp
      · exact z ▸ hb
      · exact hQ p (List.mem_cons_of_mem _ (List.mem_cons_of_mem _ (List.mem_cons_of_mem _ hp)))
  | drop P a Q =>
    obtain ⟨hP, hQ⟩ := Ok.app.mp hw
    have ha := hQ a List.mem_cons_self
    have R2 := wkd_row R hP
    have l2 := R2.len
    refine ⟨?_, Ok.app.mpr ⟨hP, fun p hp => hQ p (List.mem_cons_of_mem _ (List.mem_cons_of_mem _ hp))⟩⟩
    rw [wkd_app, wkd_app]
    show wkd (wkd r P) Q = wkd (sw (sw (wkd r P) a) a) Q
    rw [sw_sw ha.1 (by omega)]
theorem stp_len {w w' : List Int} {m : Mv} (h : Stp w m w') : w.length = w'.length + (if m.1 = .drop then 2 else 0) := by
  cases h with
  | side P a b Q h => simp
  | turn P a b Q h => simp
  | drop P a Q => simp; omega
theorem stp_back {w w' : List Int} {m : Mv} (h : Stp w m w') (nd : m.1 ≠ .drop) : Stp w' m w := by
  cases h with
  | side P a b Q h => exact .side P b a Q (by rw [dif_comm]; exact h)
  | turn P a b Q h => exact .turn P b a Q (by rw [dif_comm]; exact h)
  | drop P a Q => exact absurd rfl nd
/-- the word behind moves -/
def gon (w : List Int) (ms : List Mv) : Option (List Int) := ms.foldl (fun o m => o.bind fun w => aft w m) (some w)
theorem gon_none : ∀ ms : List Mv, ms.foldl (fun o m => o.bind fun w => aft w m) none = none
  | [] => rfl
  | _ :: ms => gon_none ms
theorem gon_cons (w : List Int) (m : Mv) (ms : List Mv) : gon w (m :: ms) = (aft w m).bind fun w' => gon w' ms := by
  unfold gon
  rw [List.foldl_cons]
  show ms.foldl _ (aft w m) = _
  cases e : aft w m with
  | none => exact gon_none ms
  | some w' => rfl
theorem gon_app : ∀ (xs ys : List Mv) (w : List Int), gon w (xs ++ ys) = (gon w xs).bind fun w' => gon w' ys
  | [], ys, w => rfl
  | m :: xs, ys, w => by
    rw [List.cons_append, gon_cons, gon_cons]
    cases aft w m with
    | none => rfl
    | some w' => exact gon_app xs ys w'
theorem gon_snoc (xs : List Mv) (m : Mv) (w : List Int) : gon w (xs ++ [m]) = (gon w xs).bind fun w' => aft w' m := by
  rw [gon_app]
  cases gon w xs with
  | none => rfl
  | some w' =>
    show gon w' [m] = aft w' m
    rw [gon_cons]
    cases aft w' m with
    | none => rfl
    | some _ => rfl
theorem gon_row : ∀ {ms : List Mv} {w w' : List Int}, gon w ms = some w' → Row n r → Ok n w → wkd r w' = wkd r w ∧ Ok n w'
  | [], w, w', h, R, hw => by
    cases h
    exact ⟨rfl, hw⟩
  | m :: ms, w, w', h, R, hw => by
    rw [gon_cons] at h
    obtain ⟨w1, h1, h2⟩ := Option.bind_eq_some_iff.mp h
    obtain ⟨a, b⟩ := stp_row (stp_of h1) R hw
    obtain ⟨c, d⟩ := gon_row h2 R b
    exact ⟨c.trans a, d⟩
theorem gon_len : ∀ {ms : List Mv} {w w' : List Int}, gon w ms = some w' → w'.length ≤ w.length ∧ ((∀ m ∈ ms, m.1 ≠ .drop) → w'.length = w.length) ∧ (w'.length = w.length → ∀ m ∈ ms, m.1 ≠ .drop)
  | [], w, w', h => by
    cases h
    exact ⟨Nat.le_refl _, fun _ => rfl, fun _ m hm => by cases hm⟩
  | m :: ms, w, w', h => by
    rw [gon_cons] at h
    obtain ⟨w1, h1, h2⟩ := Option.bind_eq_some_iff.mp h
    have a := stp_len (stp_of h1)
    obtain ⟨b, c, d⟩ := gon_len h2
    refine ⟨by split at a <;> omega, fun hm => ?_, fun e x hx => ?_⟩
    · rw [if_neg (hm m List.mem_cons_self)] at a
      rw [c fun x hx => hm x (List.mem_cons_of_mem _ hx)]
      omega
    · by_cases z : m.1 = .drop
      · rw [if_pos z] at a
        omega
      · rw [if_neg z] at a
        rcases List.mem_cons.mp hx with y | y
        · rw [y]
          exact z
        · exact d (by omega) x y
theorem gon_back : ∀ {ms : List Mv} {w w' : List Int}, gon w ms = some w' → (∀ m ∈ ms, m.1 ≠ .drop) → gon w' ms.reverse = some w
  | [], w, w', h, _ => by
    cases h
    rfl
  | m :: ms, w, w', h, nd => by
    rw [gon_cons] at h
    obtain ⟨w1, h1, h2⟩ := Option.bind_eq_some_iff.mp h
    rw [List.reverse_cons, gon_snoc, gon_back h2 fun x hx => nd x (List.mem_cons_of_mem _ hx)]
    exact aft_of (stp_back (stp_of h1) (nd m List.mem_cons_self))
def slM (a b : Int) : List Mv := (rngI b a).reverse.map fun i => (Kd.side, i)
theorem rngI_snoc {a b : Int} (h : a ≤ b) : rngI a (b + 1) = rngI a b ++ [b] := by
  rw [rngI_split h (show b ≤ b + 1 by omega), rngI_one]
theorem slM_step {a b : Int} (h : b ≤ a) : slM (a + 1) b = (.side, a) :: slM a b := by
  unfold slM
  rw [rngI_snoc h, List.reverse_append, List.map_append]
  rfl
theorem slM_nil {a b : Int} (h : a ≤ b) : slM a b = [] := by
  unfold slM
  rw [rngI_nil h]
  rfl
theorem gon_slide (P : List Int) (x : Int) : ∀ (T Q : List Int), (∀ s ∈ T, 2 ≤ dif s x) → gon (P ++ T.reverse ++ x :: Q) (slM ((P.length : Int) + (T.length : Int)) (P.length : Int)) = some (P ++ x :: (T.reverse ++ Q))
  | [], Q, _ => by
    rw [slM_nil (by simp)]
    simp [gon]
  | s :: T, Q, h => by
    have e : ((P.length : Int) + ((s :: T).length : Int)) = (P.length : Int) + (T.length : Int) + 1 := by
      rw [List.length_cons]
      omega
    rw [e, slM_step (by omega), gon_cons]
    have st := Stp.side (P ++ T.reverse) s x Q (h s List.mem_cons_self)
    have el : ((P ++ T.reverse).length : Int) = (P.length : Int) + (T.length : Int) := by
      rw [List.length_append, List.length_reverse]
      omega
    rw [el] at st
    have ew : P ++ (s :: T).reverse ++ x :: Q = P ++ T.reverse ++ s :: x :: Q := by simp
    rw [ew, aft_of st]
    show gon (P ++ T.reverse ++ x :: s :: Q) _ = _
    rw [gon_slide P x T (s :: Q) fun y hy => h y (List.mem_cons_of_mem _ hy)]
    simp
theorem gon_slide' {P S Q : List Int} {x a b : Int} (h : ∀ s ∈ S, 2 ≤ dif s x) (ha : a = (P.length : Int) + (S.length : Int)) (hb : b = (P.length : Int)) : gon (P ++ (S ++ x :: Q)) (slM a b) = some (P ++ x :: (S ++ Q)) := by
  have z := gon_slide P x S.reverse Q fun s hs => h s (List.mem_reverse.mp hs)
  rw [List.reverse_reverse, List.length_reverse, List.append_assoc] at z
  rw [ha, hb]
  exact z
def run (t lo : Int) : List Int := (rngI lo (t + 1)).reverse
theorem run_len {t lo : Int} : (run t lo).length = (t + 1 - lo).toNat := by
  unfold run
  rw [List.length_reverse, len_rngI]
theorem mem_run {t lo x : Int} : x ∈ run t lo ↔ lo ≤ x ∧ x ≤ t := by
  unfold run
  rw [List.mem_reverse, mem_rngI]
  omega
theorem run_nil {t lo : Int} (h : t + 1 ≤ lo) : run t lo = [] := by
  unfold run
  rw [rngI_nil h]
  rfl
theorem run_snoc {t lo : Int} (h : lo ≤ t + 1) : run t (lo - 1) = run t lo ++ [lo - 1] := by
  unfold run
  rw [rngI_cons (by omega), List.reverse_cons]
  have e : lo - 1 + 1 = lo := by omega
  rw [e]
theorem run_split {t lo x : Int} (h1 : lo ≤ x) (h2 : x ≤ t + 1) : run t lo = run t x ++ run (x - 1) lo := by
  unfold run
  have e : x - 1 + 1 = x := by omega
  rw [e, rngI_split h1 h2, List.reverse_append]
theorem run_cons {t lo : Int} (h : lo ≤ t) : run t lo = t :: run (t - 1) lo := by
  unfold run
  have e : t - 1 + 1 = t := by omega
  rw [e, rngI_snoc h, List.reverse_append]
  rfl
def comb (lo : List Int) : Nat → List Int
  | 0 => []
  | k + 1 => comb lo k ++ run ((k : Int) + 1) (ga lo ((k : Int) + 1))
theorem comb_succ (lo : List Int) (k : Nat) : comb lo (k + 1) = comb lo k ++ run ((k : Int) + 1) (ga lo ((k : Int) + 1)) := rfl
def Low (lo : List Int) (k : Nat) : Prop := ∀ t : Int, 1 ≤ t → t ≤ (k : Int) → 1 ≤ ga lo t ∧ ga lo t ≤ t + 1
theorem comb_congr {lo lo' : List Int} : ∀ k : Nat, (∀ t : Int, 1 ≤ t → t ≤ (k : Int) → ga lo t = ga lo' t) → comb lo k = comb lo' k
  | 0, _ => rfl
  | k + 1, h => by
    unfold comb
    rw [comb_congr k fun t h1 h2 => h t h1 (by omega), h ((k : Int) + 1) (by omega) (by omega)]
theorem ga_set {lo : List Int} {t u v : Int} (h0 : 0 ≤ t) (h1 : t < (lo.length : Int)) (u0 : 0 ≤ u) : ga (lo.set t.toNat v) u = if u = t then v else ga lo u := by
  unfold ga
  by_cases e : u = t
  · subst e
    rw [if_pos rfl, List.getElem?_set_self (by omega)]
    rfl
  · rw [if_neg e, List.getElem?_set_ne (by omega)]
def ci (lo : List Int) : Nat → Int → Int → List Mv × List Int
  | 0, _, _ => ([], lo)
  | t + 1, p, at_ =>
    if p = ga lo ((t : Int) + 1) - 1 then ([], lo.set (t + 1) p)
    else if p = ga lo ((t : Int) + 1) then ([(.drop, at_ - 1)], lo.set (t + 1) (ga lo ((t : Int) + 1) + 1))
    else if p < ga lo ((t : Int) + 1) then
      (slM at_ (at_ - ((t : Int) + 1 + 1 - ga lo ((t : Int) + 1))) ++ (ci lo t p (at_ - ((t : Int) + 1 + 1 - ga lo ((t : Int) + 1)))).1, (ci lo t p (at_ - ((t : Int) + 1 + 1 - ga lo ((t : Int) + 1)))).2)
    else
      (slM at_ (at_ - ((t : Int) + 1 + 1 - ga lo ((t : Int) + 1)) + ((t : Int) + 1) - p + 2) ++ [(.turn, at_ - ((t : Int) + 1 + 1 - ga lo ((t : Int) + 1)) + ((t : Int) + 1) - p)] ++ slM (at_ - ((t : Int) + 1 + 1 - ga lo ((t : Int) + 1)) + ((t : Int) + 1) - p) (at_ - ((t : Int) + 1 + 1 - ga lo ((t : Int) + 1))) ++
        (ci lo t (p - 1) (at_ - ((t : Int) + 1 + 1 - ga lo ((t : Int) + 1)))).1, (ci lo t (p - 1) (at_ - ((t : Int) + 1 + 1 - ga lo ((t : Int) + 1)))).2)
structure CiOk (lo : List Int) (t : Nat) (p : Int) (R : List Int) (x : List Mv × List Int) : Prop where
  goes : gon (comb lo t ++ p :: R) x.1 = some (comb x.2 t ++ R)
  low : Low x.2 t
  len : x.2.length = lo.length
  rest : ∀ u : Int, (t : Int) < u → ga x.2 u = ga lo u
theorem ci_ok (lo : List Int) : ∀ (t : Nat) (p : Int) (R : List Int), Low lo t → t < lo.length → 1 ≤ p → p ≤ (t : Int) → CiOk lo t p R (ci lo t p ((comb lo t).length : Int))
  | 0, p, R, _, _, p1, p2 => by omega
  | t + 1, p, R, hL, hl, p1, p2 => by
    have hb := hL ((t : Int) + 1) (by omega) (by omega)
    have hLt : Low lo t := fun u h1 h2 => hL u h1 (by omega)
    have gset : ∀ v u : Int, 0 ≤ u → ga (lo.set (t + 1) v) u = if u = (t : Int) + 1 then v else ga lo u := fun v u u0 => by
      have z := ga_set (lo := lo) (t := (t : Int) + 1) (u := u) (v := v) (by omega) (by omega) u0
      have e : ((t : Int) + 1).toNat = t + 1 := by omega
      rw [e] at z
      exact z
    have cset : ∀ v : Int, comb (lo.set (t + 1) v) t = comb lo t := fun v => comb_congr t fun u h1 h2 => by rw [gset v u (by omega), if_neg (by omega)]
    have clen : ((comb lo (t + 1)).length : Int) - ((t : Int) + 1 + 1 - ga lo ((t : Int) + 1)) = ((comb lo t).length : Int) := by
      rw [comb_succ, List.length_append, run_len]
      omega
    unfold ci
    rw [clen]
    generalize hg : ga lo ((t : Int) + 1) = low at hb clen
    have cdef : comb lo (t + 1) = comb lo t ++ run ((t : Int) + 1) low := by
      rw [← hg]
      rfl
    split
    · -- the run gets longer
      rename_i hp
      refine ⟨?_, fun u h1 h2 => ?_, List.length_set, fun u hu => ?_⟩
      · have e : comb (lo.set (t + 1) p) (t + 1) = comb lo t ++ run ((t : Int) + 1) p := by
          rw [comb_succ, cset, gset p _ (by omega), if_pos rfl]
        rw [e, hp, run_snoc (by omega), cdef]
        simp [gon]
      · rw [gset p u (by omega)]
        split
        · omega
        · exact hL u h1 h2
      · rw [gset p u (by omega), if_neg (by omega)]
    split
    · -- the run gets shorter
      rename_i hn hp
      refine ⟨?_, fun u h1 h2 => ?_, List.length_set, fun u hu => ?_⟩
      · have e : comb (lo.set (t + 1) (low + 1)) (t + 1) = comb lo t ++ run ((t : Int) + 1) (low + 1) := by
          rw [comb_succ, cset, gset _ _ (by omega), if_pos rfl]
        have rs : run ((t : Int) + 1) low = run ((t : Int) + 1) (low + 1) ++ [low] := by
          have z := run_snoc (t := (t : Int) + 1) (lo := low + 1) (by omega)
          have e2 : low + 1 - 1 = low := by omega
          rw [e2] at z
          exact z
        have st := Stp.drop (comb lo t ++ run ((t : Int) + 1) (low + 1)) low R
        have el : ((comb lo t ++ run ((t : Int) + 1) (low + 1)).length : Int) = ((comb lo (t + 1)).length : Int) - 1 := by
          rw [cdef, rs, ← List.append_assoc, List.length_append (bs := [low])]
          show _ = ((_ + 1 : Nat) : Int) - 1
          omega
        rw [el] at st
        rw [e, cdef, rs, hp] at *
        have ew : comb lo t ++ (run ((t : Int) + 1) (low + 1) ++ [low]) ++ low :: R = comb lo t ++ run ((t : Int) + 1) (low + 1) ++ low :: low :: R := by simp
        rw [ew, gon_cons, aft_of st]
        rfl
      · rw [gset _ u (by omega)]
        split
        · omega
        · exact hL u h1 h2
      · rw [gset _ u (by omega), if_neg (by omega)]
    split
    · -- past the run
      rename_i hn1 hn2 hp
      have ih := ci_ok lo t p (run ((t : Int) + 1) low ++ R) hLt (by omega) p1 (by omega)
      refine ⟨?_, fun u h1 h2 => ?_, ih.len, fun u hu => ih.rest u (by omega)⟩
      · have sl := gon_slide' (P := comb lo t) (S := run ((t : Int) + 1) low) (Q := R) (x := p) (a := ((comb lo (t + 1)).length : Int)) (b := ((comb lo t).length : Int)) (fun s hs => by
          have := mem_run.mp hs
          exact dif_two.mpr (.inr (by omega))) (by rw [cdef, List.length_append]; omega) rfl
        rw [gon_app, cdef, List.append_assoc]
        rw [cdef] at sl
        rw [sl]
        show gon _ _ = _
        rw [ih.goes]
        show _ = some (comb (ci lo t p ((comb lo t).length : Int)).2 (t + 1) ++ R)
        rw [comb_succ, ih.rest ((t : Int) + 1) (by omega), hg, List.append_assoc]
      · by_cases e : u = (t : Int) + 1
        · subst e
          show 1 ≤ ga (ci lo t p ((comb lo t).length : Int)).2 ((t : Int) + 1) ∧ _
          rw [ih.rest _ (by omega), hg]
          exact hb
        · exact ih.low u h1 (by omega)
    · -- by a turn
      rename_i hn1 hn2 hn3
      have ih := ci_ok lo t (p - 1) (run ((t : Int) + 1) low ++ R) hLt (by omega) (by omega) (by omega)
      refine ⟨?_, fun u h1 h2 => ?_, ih.len, fun u hu => ih.rest u (by omega)⟩
      · -- the run's parts: A, p, p - 1, B
        have rs : run ((t : Int) + 1) low = run ((t : Int) + 1) (p + 1) ++ (p :: (p - 1) :: run (p - 2) low) := by
          rw [run_split (x := p + 1) (by omega) (by omega)]
          have e1 : p + 1 - 1 = p := by omega
          have e2 : p - 1 - 1 = p - 2 := by omega
          rw [e1, run_cons (t := p) (by omega), run_cons (t := p - 1) (by omega), e2]
        generalize hA : run ((t : Int) + 1) (p + 1) = A at rs
        generalize hB : run (p - 2) low = B at rs
        have lA : (A.length : Int) = (t : Int) + 1 - p := by
          rw [← hA, run_len]
          omega
        have lB : (B.length : Int) = p - 1 - low := by
          rw [← hB, run_len]
          omega
        have lall : ((comb lo (t + 1)).length : Int) = ((comb lo t).length : Int) + (A.length : Int) + 2 + (B.length : Int) := by
          rw [cdef, rs, List.length_append, List.length_append, List.length_cons, List.length_cons]
          omega
        have s1 := gon_slide' (P := comb lo t ++ A ++ [p, p - 1]) (S := B) (Q := R) (x := p) (a := ((comb lo (t + 1)).length : Int)) (b := ((comb lo t).length : Int) + ((t : Int) + 1) - p + 2) (fun s hs => by
          rw [← hB] at hs
          have := mem_run.mp hs
          exact dif_two.mpr (.inl (by omega))) (by rw [lall, List.length_append, List.length_append]; show _ = ((_ + _ + 2 : Nat) : Int) + _; omega) (by rw [List.length_append, List.length_append]; show _ = ((_ + _ + 2 : Nat) : Int); omega)
        have st := Stp.turn (comb lo t ++ A) p (p - 1) (B ++ R) (dif_one.mpr (.inr (by omega)))
        have el : ((comb lo t ++ A).length : Int) = ((comb lo t).length : Int) + ((t : Int) + 1) - p := by
          rw [List.length_append]
          omega
        rw [el] at st
        have s2 := gon_slide' (P := comb lo t) (S := A) (Q := p :: (p - 1) :: (B ++ R)) (x := p - 1) (a := ((comb lo t).length : Int) + ((t : Int) + 1) - p) (b := ((comb lo t).length : Int)) (fun s hs => by
          rw [← hA] at hs
          have := mem_run.mp hs
          exact dif_two.mpr (.inr (by omega))) (by omega) rfl
        have w0 : comb lo (t + 1) ++ p :: R = comb lo t ++ A ++ [p, p - 1] ++ (B ++ p :: R) := by
          rw [cdef, rs]
          simp
        have w1 : comb lo t ++ A ++ [p, p - 1] ++ p :: (B ++ R) = comb lo t ++ A ++ p :: (p - 1) :: p :: (B ++ R) := by simp
        have w2 : comb lo t ++ A ++ (p - 1) :: p :: (p - 1) :: (B ++ R) = comb lo t ++ (A ++ (p - 1) :: p :: (p - 1) :: (B ++ R)) := by simp
        have w3 : comb lo t ++ (p - 1) :: (A ++ p :: (p - 1) :: (B ++ R)) = comb lo t ++ (p - 1) :: (run ((t : Int) + 1) low ++ R) := by
          rw [rs]
          simp
        rw [gon_app, gon_app, gon_app, w0, s1]
        show ((gon _ [_]).bind fun w' => gon w' _).bind (fun w' => gon w' _) = _
        rw [w1, gon_cons, aft_of st]
        show (gon _ _).bind (fun w' => gon w' _) = _
        rw [w2, s2]
        show gon _ _ = _
        rw [w3, ih.goes]
        show _ = some (comb (ci lo t (p - 1) ((comb lo t).length : Int)).2 (t + 1) ++ R)
        rw [comb_succ, ih.rest ((t : Int) + 1) (by omega), hg, List.append_assoc]
      · by_cases e : u = (t : Int) + 1
        · subst e
          show 1 ≤ ga (ci lo t (p - 1) ((comb lo t).length : Int)).2 ((t : Int) + 1) ∧ _
          rw [ih.rest _ (by omega), hg]
          exact hb
        · exact ih.low u h1 (by omega)
end Sw

set_option linter.all false
namespace Sw
variable {n : Nat} {r : List Int}
def cmb (lo : List Int) (m : Nat) : List Int → List Mv × List Int
  | [] => ([], lo)
  | p :: ps => ((ci lo m p ((comb lo m).length : Int)).1 ++ (cmb (ci lo m p ((comb lo m).length : Int)).2 m ps).1, (cmb (ci lo m p ((comb lo m).length : Int)).2 m ps).2)
theorem cmb_ok {m : Nat} : ∀ {ps : List Int} {lo : List Int}, Low lo m → m < lo.length → (∀ p ∈ ps, 1 ≤ p ∧ p ≤ (m : Int)) → gon (comb lo m ++ ps) (cmb lo m ps).1 = some (comb (cmb lo m ps).2 m) ∧ Low (cmb lo m ps).2 m ∧ (cmb lo m ps).2.length = lo.length
  | [], lo, hL, hl, _ => by
    refine ⟨?_, hL, rfl⟩
    rw [List.append_nil]
    rfl
  | p :: ps, lo, hL, hl, h => by
    obtain ⟨p1, p2⟩ := h p List.mem_cons_self
    have c := ci_ok lo m p ps hL hl p1 p2
    obtain ⟨a, b, d⟩ := cmb_ok (ps := ps) c.low (by rw [c.len]; exact hl) fun q hq => h q (List.mem_cons_of_mem _ hq)
    refine ⟨?_, b, d.trans c.len⟩
    show gon _ (_ ++ _) = _
    rw [gon_app, c.goes]
    exact a
theorem ga_rng {n : Nat} {t : Int} (h0 : 0 ≤ t) (h1 : t < (n : Int)) : ga (rng n) t = t + 1 := by
  unfold ga rng rngI
  rw [List.getElem?_map, List.getElem?_range (by omega)]
  show 1 + ((t.toNat : Nat) : Int) = _
  omega
theorem comb_rng {n : Nat} : ∀ k : Nat, k < n → comb (rng n) k = []
  | 0, _ => rfl
  | k + 1, h => by
    rw [comb_succ, comb_rng k (by omega), ga_rng (by omega) (by omega), run_nil (by omega)]
    rfl
theorem low_rng {n k : Nat} (h : k < n) : Low (rng n) k := fun t h1 h2 => by
  rw [ga_rng (by omega) (by omega)]
  omega
theorem sw_mid (P : List Int) (a b : Int) (Q : List Int) : sw (P ++ a :: b :: Q) ((P.length : Int) + 1) = P ++ b :: a :: Q := by
  have g0 : ga (P ++ a :: b :: Q) ((P.length : Int) + 1 - 1) = a := by
    have e : (P.length : Int) + 1 - 1 = (P.length : Int) + ((0 : Nat) : Int) := by omega
    rw [e]
    exact ga_mid P (a :: b :: Q) 0
  have g1 : ga (P ++ a :: b :: Q) ((P.length : Int) + 1) = b := ga_mid P (a :: b :: Q) 1
  unfold sw
  rw [g0, g1]
  have e1 : ((P.length : Int) + 1 - 1).toNat = P.length := by omega
  have e2 : ((P.length : Int) + 1 + 1).toNat = P.length + 2 := by omega
  rw [e1, e2, List.take_left, List.drop_append]
  simp
theorem run_ins (b : Int) {lo : Int} (l1 : 1 ≤ lo) : ∀ (T B : List Int), Row n (T.reverse ++ b :: B) → (∀ x ∈ T, x < b) → lo ≤ (T.length : Int) + 1 →
    wkd (T.reverse ++ b :: B) (run (T.length : Int) lo) = T.reverse.take (lo - 1).toNat ++ b :: (T.reverse.drop (lo - 1).toNat ++ B) ∧
    (tp (wkd (T.reverse ++ b :: B) (run (T.length : Int) lo))).length = (tp (T.reverse ++ b :: B)).length + (run (T.length : Int) lo).length
  | [], B, R, _, h => by
    have e : lo = 1 := by
      have : ([] : List Int).length = 0 := rfl
      rw [this] at h
      omega
    subst e
    exact ⟨rfl, rfl⟩
  | a :: T, B, R, ha, h => by
    have el : (((a :: T).length : Nat) : Int) = (T.length : Int) + 1 := by
      rw [List.length_cons]
      omega
    have er : (a :: T).reverse = T.reverse ++ [a] := List.reverse_cons
    rw [el] at h ⊢
    rw [er] at R ⊢
    by_cases c : lo = (T.length : Int) + 2
    · have tl : (T.reverse ++ [a]).length = T.length + 1 := by simp
      rw [run_nil (by omega), List.take_of_length_le (by rw [tl]; omega), List.drop_eq_nil_of_le (by rw [tl]; omega)]
      exact ⟨rfl, rfl⟩
    · have er2 : T.reverse ++ [a] ++ b :: B = T.reverse ++ a :: b :: B := by simp
      rw [er2] at R ⊢
      have hsw := sw_mid T.reverse a b B
      have hTl : (T.reverse.length : Int) = (T.length : Int) := by rw [List.length_reverse]
      rw [hTl] at hsw
      have hRl := R.len
      rw [List.length_append, List.length_cons, List.length_cons, List.length_reverse] at hRl
      have R2 := sw_row R (p := (T.length : Int) + 1) (by omega) (by omega)
      have hup : ga (T.reverse ++ a :: b :: B) ((T.length : Int) + 1 - 1) < ga (T.reverse ++ a :: b :: B) ((T.length : Int) + 1) := by
        have g0 := ga_mid T.reverse (a :: b :: B) 0
        have g1 := ga_mid T.reverse (a :: b :: B) 1
        rw [hTl] at g0 g1
        have e : (T.length : Int) + 1 - 1 = (T.length : Int) + ((0 : Nat) : Int) := by omega
        have e2 : (T.length : Int) + 1 = (T.length : Int) + ((1 : Nat) : Int) := rfl
        rw [e, e2, g0, g1]
        exact ha a List.mem_cons_self
      have hlen := len_up R (p := (T.length : Int) + 1) (by omega) (by omega) hup
      rw [hsw] at R2 hlen
      obtain ⟨i1, i2⟩ := run_ins b l1 T (a :: B) R2 (fun x hx => ha x (List.mem_cons_of_mem _ hx)) (by omega)
      have hrun : run ((T.length : Int) + 1) lo = ((T.length : Int) + 1) :: run (T.length : Int) lo := by
        have z := run_cons (t := (T.length : Int) + 1) (lo := lo) (by omega)
        have e : (T.length : Int) + 1 - 1 = (T.length : Int) := by omega
        rw [e] at z
        exact z
      have hw : wkd (T.reverse ++ a :: b :: B) (run ((T.length : Int) + 1) lo) = wkd (T.reverse ++ b :: a :: B) (run (T.length : Int) lo) := by
        rw [hrun]
        show wkd (sw _ _) _ = _
        rw [hsw]
      rw [hw]
      refine ⟨?_, ?_⟩
      · rw [i1, List.take_append_of_le_length (by rw [List.length_reverse]; omega), List.drop_append_of_le_length (by rw [List.length_reverse]; omega)]
        simp
      · rw [i2, hlen, hrun, List.length_cons]
        omega
/-- the first things of a combed word's row -/
def xsL (lo : List Int) : Nat → List Int
  | 0 => [1]
  | k + 1 => (xsL lo k).take (ga lo ((k : Int) + 1) - 1).toNat ++ ((k : Int) + 2) :: (xsL lo k).drop (ga lo ((k : Int) + 1) - 1).toNat
theorem xsL_succ (lo : List Int) (k : Nat) : xsL lo (k + 1) = (xsL lo k).take (ga lo ((k : Int) + 1) - 1).toNat ++ ((k : Int) + 2) :: (xsL lo k).drop (ga lo ((k : Int) + 1) - 1).toNat := rfl
theorem xsL_len (lo : List Int) : ∀ k : Nat, (xsL lo k).length = k + 1
  | 0 => rfl
  | k + 1 => by
    rw [xsL_succ, List.length_append, List.length_cons, List.length_take, List.length_drop, xsL_len lo k]
    omega
theorem xsL_le (lo : List Int) : ∀ (k : Nat), ∀ x ∈ xsL lo k, x ≤ (k : Int) + 1
  | 0, x, h => by
    cases List.mem_singleton.mp h
    decide
  | k + 1, x, h => by
    rw [xsL_succ] at h
    rcases List.mem_append.mp h with z | z
    · have := xsL_le lo k x (List.mem_of_mem_take z)
      omega
    rcases List.mem_cons.mp z with z | z
    · omega
    · have := xsL_le lo k x (List.mem_of_mem_drop z)
      omega
theorem comb_ok {lo : List Int} {n : Nat} : ∀ k : Nat, k < n → Low lo k → Ok n (comb lo k) ∧ wkd (rng n) (comb lo k) = xsL lo k ++ rngI ((k : Int) + 2) ((n : Int) + 1) ∧ (tp (wkd (rng n) (comb lo k))).length = (comb lo k).length
  | 0, h, _ => by
    refine ⟨fun p hp => (by cases hp), ?_, ?_⟩
    · show rng n = [1] ++ _
      unfold rng
      rw [rngI_cons (by omega)]
      rfl
    · show (tp (rng n)).length = 0
      rw [tp_rng]
      rfl
  | k + 1, h, hL => by
    obtain ⟨i0, i1, i2⟩ := comb_ok (n := n) k (by omega) fun t h1 h2 => hL t h1 (by omega)
    have hb := hL ((k : Int) + 1) (by omega) (by omega)
    have hl := xsL_len lo k
    have e1 : rngI ((k : Int) + 2) ((n : Int) + 1) = ((k : Int) + 2) :: rngI ((k : Int) + 3) ((n : Int) + 1) := by
      rw [rngI_cons (by omega)]
      have e : (k : Int) + 2 + 1 = (k : Int) + 3 := by omega
      rw [e]
    have R := wkd_row (rng_row (n := n)) i0
    have i1' := i1
    rw [e1] at i1
    have z := run_ins (n := n) ((k : Int) + 2) hb.1 (xsL lo k).reverse (rngI ((k : Int) + 3) ((n : Int) + 1))
    rw [List.reverse_reverse, List.length_reverse, hl, ← i1] at z
    have z2 := z R (fun x hx => by have := xsL_le lo k x (List.mem_reverse.mp hx); omega) (by omega)
    have ek : (((k + 1 : Nat)) : Int) = (k : Int) + 1 := by omega
    rw [ek] at z2
    have e3 : ((k : Int) + 1 + 2) = (k : Int) + 3 := by omega
    refine ⟨?_, ?_, ?_⟩
    · rw [comb_succ]
      refine Ok.app.mpr ⟨i0, fun p hp => ?_⟩
      have := mem_run.mp hp
      omega
    · rw [comb_succ, wkd_app, z2.1, xsL_succ, ek, e3]
      simp
    · rw [comb_succ, wkd_app, z2.2, i2, List.length_append]
theorem xsL_inj {lo lo' : List Int} : ∀ k : Nat, Low lo k → Low lo' k → xsL lo k = xsL lo' k → ∀ t : Int, 1 ≤ t → t ≤ (k : Int) → ga lo t = ga lo' t
  | 0, _, _, _, t, h1, h2 => by omega
  | k + 1, hL, hL', e, t, h1, h2 => by
    have hb := hL ((k : Int) + 1) (by omega) (by omega)
    have hb' := hL' ((k : Int) + 1) (by omega) (by omega)
    have key : ∀ {l : List Int} {i : Nat}, (∀ x ∈ l, x ≤ (k : Int) + 1) → i ≤ l.length → (l.take i ++ ((k : Int) + 2) :: l.drop i).idxOf ((k : Int) + 2) = i ∧ (l.take i ++ ((k : Int) + 2) :: l.drop i).filter (fun x => decide (x ≤ (k : Int) + 1)) = l := fun {l i} hx hi => by
      constructor
      · have nm : ((k : Int) + 2) ∉ l.take i := fun z => by
          have := hx _ (List.mem_of_mem_take z)
          omega
        rw [List.idxOf_append, if_neg nm, List.idxOf_cons_self, List.length_take]
        omega
      · rw [List.filter_append, List.filter_cons, if_neg (by rw [decide_eq_true_iff]; omega), List.filter_eq_self.mpr fun x z => decide_eq_true (hx x (List.mem_of_mem_take z)), List.filter_eq_self.mpr fun x z => decide_eq_true (hx x (List.mem_of_mem_drop z)), List.take_append_drop]
    rw [xsL_succ, xsL_succ] at e
    have l1 := xsL_len lo k
    have l2 := xsL_len lo' k
    obtain ⟨a1, a2⟩ := key (xsL_le lo k) (i := (ga lo ((k : Int) + 1) - 1).toNat) (by omega)
    obtain ⟨b1, b2⟩ := key (xsL_le lo' k) (i := (ga lo' ((k : Int) + 1) - 1).toNat) (by omega)
    rw [e] at a1 a2
    by_cases c : t = (k : Int) + 1
    · subst c
      omega
    · exact xsL_inj k (fun u h1 h2 => hL u h1 (by omega)) (fun u h1 h2 => hL' u h1 (by omega)) (a2.symm.trans b2) t h1 (by omega)
/-- combed words of one row are alike -/
theorem comb_inj {lo lo' : List Int} {n k : Nat} (h : k < n) (hL : Low lo k) (hL' : Low lo' k) (e : wkd (rng n) (comb lo k) = wkd (rng n) (comb lo' k)) : comb lo k = comb lo' k := by
  rw [(comb_ok k h hL).2.1, (comb_ok k h hL').2.1] at e
  exact comb_congr k (xsL_inj k hL hL' (List.append_inj_left e (by rw [xsL_len, xsL_len])))
def cms (n : Nat) (ps : List Int) : List Mv := (cmb (rng n) (n - 1) ps).1
def cwd (n : Nat) (ps : List Int) : List Int := comb (cmb (rng n) (n - 1) ps).2 (n - 1)
theorem cms_ok {n : Nat} {ps : List Int} (h1 : 1 ≤ n) (hp : Ok n ps) : gon ps (cms n ps) = some (cwd n ps) ∧ Ok n (cwd n ps) ∧ wkd (rng n) (cwd n ps) = wkd (rng n) ps ∧ (cwd n ps).length = (tp (wkd (rng n) ps)).length := by
  have hl : (rng n).length = n := by
    rw [len_rngI]
    omega
  obtain ⟨a, b, c⟩ := cmb_ok (m := n - 1) (ps := ps) (low_rng (n := n) (by omega)) (by omega) fun p h => by
    have := hp p h
    omega
  rw [comb_rng (n - 1) (by omega), List.nil_append] at a
  obtain ⟨i0, i1, i2⟩ := comb_ok (n := n) (n - 1) (by omega) b
  obtain ⟨d, _⟩ := gon_row a (rng_row (n := n)) hp
  refine ⟨a, i0, d, ?_⟩
  unfold cwd
  rw [← i2]
  exact congrArg (fun r => (tp r).length) d
theorem cwd_alike {n : Nat} {ps qs : List Int} (h1 : 1 ≤ n) (hp : Ok n ps) (hq : Ok n qs) (e : wkd (rng n) ps = wkd (rng n) qs) : cwd n ps = cwd n qs := by
  have hl : (rng n).length = n := by
    rw [len_rngI]
    omega
  obtain ⟨a, b, c⟩ := cmb_ok (m := n - 1) (ps := ps) (low_rng (n := n) (by omega)) (by omega) fun p h => by
    have := hp p h
    omega
  obtain ⟨a', b', c'⟩ := cmb_ok (m := n - 1) (ps := qs) (low_rng (n := n) (by omega)) (by omega) fun p h => by
    have := hq p h
    omega
  refine comb_inj (n := n) (by omega) b b' ?_
  have x := (cms_ok h1 hp).2.2.1
  have y := (cms_ok h1 hq).2.2.1
  exact x.trans (e.trans y.symm)
/-- a part of the moves, up to the last drop -/
theorem gon_take {w w' : List Int} {ms : List Mv} (h : gon w ms = some w') (k : Nat) : ∃ w1, gon w (ms.take k) = some w1 ∧ gon w1 (ms.drop k) = some w' := by
  rw [← List.take_append_drop k ms, gon_app] at h
  obtain ⟨w1, a, b⟩ := Option.bind_eq_some_iff.mp h
  exact ⟨w1, a, b⟩
end Sw

set_option Elab.async false
set_option linter.all false
set_option maxRecDepth 100000
namespace Ho
open PySem PySem.Spec PySem.Calls PyProof.Rows L2 LamX NdefX Ed Ru
open Ed.Enc (enc)
/-- texts whose signs are signs -/
structure OkS where
  s : Str
  ok : PyData.strOk s = true
theorem OkS.ext' {a b : OkS} : a = b ↔ a.s = b.s := by
  obtain ⟨a, ha⟩ := a
  obtain ⟨b, hb⟩ := b
  simp
instance : DecidableEq OkS := fun a b => decidable_of_iff (a.s = b.s) OkS.ext'.symm
instance : Enc OkS where
  enc := fun x => .str x.s
  dep := 0
  lay := fun x => by
    simp only [PyData.canLay0]
    exact x.ok
  deep := fun x => by simp [PyData.depth]
  same := fun x y => by
    rw [OkS.ext']
    simp [PyData.eqv]
instance : NoL OkS := ⟨fun x => rfl⟩
def kname : Sw.Kd → Str
  | .side => "side"
  | .turn => "turn"
  | .drop => "drop"
theorem kname_inj {a b : Sw.Kd} : kname a = kname b ↔ a = b := by
  cases a <;> cases b <;> decide
theorem kname_ok (k : Sw.Kd) : PyData.strOk (kname k) = true := by
  cases k <;> decide +kernel
instance : Enc Sw.Kd where
  enc := fun k => .str (kname k)
  dep := 0
  lay := fun x => by
    simp only [PyData.canLay0]
    exact kname_ok x
  deep := fun x => by simp [PyData.depth]
  same := fun x y => by
    rw [← kname_inj]
    simp [PyData.eqv]
instance : NoL Sw.Kd := ⟨fun x => rfl⟩
instance {α : Type} [Enc α] : Enc (Option (List α)) where
  enc := fun o => match o with
    | none => .none
    | some l => enc l
  dep := Enc.dep (List α)
  lay := fun x => by
    cases x with
    | none => simp [PyData.canLay0]
    | some l => exact Enc.lay l
  deep := fun x => by
    cases x with
    | none => simp [PyData.depth]
    | some l => exact Enc.deep l
  same := fun x y => by
    cases x with
    | none =>
      cases y with
      | none => simp [PyData.eqv]
      | some l =>
        have e : PyData.eqv .none (PyData.list (l.map enc)) = false := by simp [PyData.eqv]
        show PyData.eqv .none (PyData.list (l.map enc)) = true ↔ _
        rw [e]
        simp
    | some l =>
      cases y with
      | none =>
        have e : PyData.eqv (PyData.list (l.map enc)) .none = false := by simp [PyData.eqv]
        show PyData.eqv (PyData.list (l.map enc)) .none = true ↔ _
        rw [e]
        simp
      | some m =>
        rw [Option.some.injEq]
        exact Enc.same l m
section
variable {T : Tbs} {K : PySem.W.Frag} {σ : L2.St} {G0 H0 F G H : Hp} {Γ Γ' : List Sl} {O : Ow} {R R' : Rp} {i j : Nat} {te tl ta tb tc td : TE} {D : Ends} {t : TT} {tu tw ts : TS} {α β : Type} [Enc α] [Enc β] {ds es : List PyData}
abbrev IsT' (x : Str) : Rp := IsD (.str x)
theorem ev_str {x : Str} : EvR T (tC (.str x)) σ G (IsT' x) := fun H k Q q => q _ G H (Nx.refl k) (.str x)
theorem dq_str {x : Str} {v : V} (h : IsT' x G v) : v = .str x := by
  cases h
  rfl
instance {x : Str} : Th (IsT' x) := ⟨fun hS r => dq_th hS rfl r⟩
theorem ev_eqS {x y : Str} (ha : EvR T ta σ G (IsT' x)) (hb : EvR T tb σ G (IsT' y)) : Ev T (tOp rEq ta tb) σ G (decide (x = y)) :=
  ev_op isD_ex isD_ex ha hb fun u v G1 H1 _ k rx ry Q q => by
    rw [dq_str rx, dq_str ry]
    refine ⟨rfl, q _ G1 H1 (Nx.refl k) ?_⟩
    have e : decide (V.str x = V.str y) = decide (x = y) := by simp
    rw [e]
    exact .bl _
theorem ev_neS' {x y : Str} (ha : EvR T ta σ G (IsT' x)) (hb : EvR T tb σ G (IsT' y)) : Ev T (tOp rNe ta tb) σ G (!decide (x = y)) :=
  ev_op isD_ex isD_ex ha hb fun u v G1 H1 _ k rx ry Q q => by
    rw [dq_str rx, dq_str ry]
    refine ⟨rfl, q _ G1 H1 (Nx.refl k) ?_⟩
    have e : decide (V.str x = V.str y) = decide (x = y) := by simp
    rw [e]
    exact .bl _
/-- a kind against a written one -/
theorem ev_kd {k k' : Sw.Kd} {x : Str} (ha : Ev T ta σ G k) (hx : x = kname k') : Ev T (tOp rEq ta (tC (.str x))) σ G (decide (k = k')) := by
  subst hx
  have h : Ev T (tOp rEq ta (tC (.str (kname k')))) σ G (decide (kname k = kname k')) := ev_eqS (x := kname k) (y := kname k') ha ev_str
  exact h.to (decide_eq_decide.mpr kname_inj)
theorem ev_ltrue : Ev T (tC (.bl true)) σ G true := ev_bool
theorem ev_none : Ev T (tC .non) σ G (none : Option (List α)) := fun H k Q q => q _ G H (Nx.refl k) .non
theorem non_iff {o : Option (List α)} {v : V} (h : IsE o G v) : decide (v = .non) = o.isNone := by
  cases o with
  | none =>
    have h : Dq G v .none := h
    cases h
    rfl
  | some l =>
    have h : Dq G v (.list (l.map enc)) := h
    cases h
    rfl
theorem ev_isN {o : Option (List α)} (ha : Ev T ta σ G o) : Ev T (tOp (fun x y H Q => y = V.non ∧ Q (.bl (decide (x = V.non))) H) ta (tC .non)) σ G o.isNone :=
  ev_op isD_ex isV_ex ha (ev_c (v := .non)) fun u v G1 H1 _ k rx ry Q q => by
    refine ⟨ry, q _ G1 H1 (Nx.refl k) ?_⟩
    rw [non_iff rx]
    exact .bl _
theorem ev_notN {o : Option (List α)} (ha : Ev T ta σ G o) : Ev T (tOp (fun x y H Q => y = V.non ∧ Q (.bl (!decide (x = V.non))) H) ta (tC .non)) σ G o.isSome :=
  ev_op isD_ex isV_ex ha (ev_c (v := .non)) fun u v G1 H1 _ k rx ry Q q => by
    refine ⟨ry, q _ G1 H1 (Nx.refl k) ?_⟩
    rw [non_iff rx, Option.not_isNone]
    exact .bl _
theorem ev_fst {x : α} {y : β} (h : Ev T te σ G (x, y)) : Ev T (tOp (rIxT K) te (tC (.int 0))) σ G x := ev_op isD_ex isD_ex h (ev_int (i := 0)) fun u v G1 H1 _ k rx ry Q q => by
  have rx : Dq G1 u (.tuple [enc x, enc y]) := rx
  cases rx with
  | @tup a vs _ h1 h2 =>
    cases h2 with
    | cons r1 h3 =>
      cases h3 with
      | cons r2 h4 =>
        cases h4
        exact ⟨a, _, 0, _, rfl, dq_int ry, .inl (.inl (k.le _ _ h1)), rfl, q _ G1 H1 (Nx.refl k) r1⟩
theorem ev_snd {x : α} {y : β} (h : Ev T te σ G (x, y)) : Ev T (tOp (rIxT K) te (tC (.int 1))) σ G y := ev_op isD_ex isD_ex h (ev_int (i := 1)) fun u v G1 H1 _ k rx ry Q q => by
  have rx : Dq G1 u (.tuple [enc x, enc y]) := rx
  cases rx with
  | @tup a vs _ h1 h2 =>
    cases h2 with
    | cons r1 h3 =>
      cases h3 with
      | cons r2 h4 =>
        cases h4
        exact ⟨a, _, 1, _, rfl, dq_int ry, .inl (.inl (k.le _ _ h1)), rfl, q _ G1 H1 (Nx.refl k) r2⟩
theorem ev_len2 {p : α × β} (h : Ev T te σ G p) : Ev T (tCB (fun xs H Q => ∃ p ys, xs = [V.ref p] ∧ (SqL K H p ys ∨ SqT K H p ys) ∧ Q (.int ys.length) H) (tCons te tNil)) σ G (2 : Int) := fun H k Q q =>
  h H k _ fun v G1 H1 n1 r1 => by
    have r1 : Dq G1 v (.tuple [enc p.1, enc p.2]) := r1
    cases r1 with
    | @tup a vs _ h1 h2 =>
      have hl := da_len h2
      refine ⟨a, vs, rfl, .inr (.inl (.inl (n1.kn.le _ _ h1))), ?_⟩
      rw [hl]
      exact q _ G1 H1 n1 (.int _)
theorem ev_abs {i : Int} (ha : Ev T ta σ G i) : Ev T (tCB (fun xs H Q => ∃ i, xs = [V.int i] ∧ Q (.int (if i < 0 then -i else i)) H) (tCons ta tNil)) σ G (if i < 0 then -i else i) := fun H k Q q =>
  ha H k _ fun v G1 H1 n1 r1 => by
    rw [dq_int r1]
    exact ⟨i, rfl, q _ G1 H1 n1 (.int _)⟩
theorem ev_b2i {b : Bool} (ha : Ev T ta σ G b) : Ev T (tCB (fun xs H Q => (∃ i, xs = [V.int i] ∧ Q (.int i) H) ∨ ∃ k, xs = [V.bl k] ∧ Q (.int (if k then 1 else 0)) H) (tCons ta tNil)) σ G (if b = true then (1 : Int) else 0) := fun H k Q q =>
  ha H k _ fun v G1 H1 n1 r1 => by
    rw [dq_bool r1]
    exact .inr ⟨b, rfl, q _ G1 H1 n1 (.int _)⟩
theorem ev_maxD {xs : List Int} {d m : Int} (ha : Ev T ta σ G xs) (hb : Ev T tb σ G d) (h0 : xs = [] → m = d) (h1 : xs ≠ [] → m ∈ xs ∧ ∀ n ∈ xs, n ≤ m) : Ev T (tCKw (rMaxD K) (tCons ta tNil) (tCons tb tNil)) σ G m := fun H k Q q =>
  ha H k _ fun v G1 H1 n1 r1 => EvR.mono isD_ex hb n1.ex H1 n1.kn _ fun w G2 H2 n2 r2 => by
    have r1 : Dq G2 v (.list (xs.map PyData.int)) := dq_ex n2.ex r1
    rw [dq_int r2]
    cases r1 with
    | @lst a vs _ g1 g2 =>
      rw [da_ints_eq g2] at g1
      refine ⟨a, xs, d, rfl, rfl, .inl (.inl (n2.kn.le _ _ g1)), fun m' e0 e1 => ?_⟩
      have e : m' = m := by
        by_cases z : xs = []
        · rw [e0 z, h0 z]
        · obtain ⟨a1, a2⟩ := e1 z
          obtain ⟨b1, b2⟩ := h1 z
          have := a2 m b1
          have := b2 m' a1
          omega
      rw [e]
      exact q _ G2 H2 (n1.trans n2) (.int _)
/-- xs[a:b] -/
theorem en_mid {xs : List α} {i j : Int} (h : Ev T tl σ G xs) (hi : Ev T ta σ G i) (hj : Ev T tb σ G j) (h0 : 0 ≤ i := by omega) (h1 : i ≤ j := by omega) : EvN T (tSl (rSlL K) tl (tPart ta) (tPart tb)) σ G ((xs.drop i.toNat).take (j - i).toNat) := EvN.to (en_sl h (eo_some hi) (eo_some hj)) (by
  obtain ⟨a, rfl⟩ := Int.eq_ofNat_of_zero_le h0
  obtain ⟨b, rfl⟩ := Int.eq_ofNat_of_zero_le (Int.le_trans h0 h1)
  unfold cutA
  rw [HT.sIx_nat, HT.sIx_nat]
  simp only [Int.toNat_natCast]
  by_cases c : a ≤ xs.length
  · rw [Nat.min_eq_left c]
    by_cases d : b ≤ xs.length
    · rw [Nat.min_eq_left d]
      congr 1
      omega
    · rw [Nat.min_eq_right (by omega), List.take_of_length_le (by rw [List.length_drop]; omega), List.take_of_length_le (by rw [List.length_drop]; omega)]
  · rw [Nat.min_eq_right (show xs.length ≤ a by omega), List.drop_eq_nil_of_le (Nat.le_refl _), List.drop_eq_nil_of_le (show xs.length ≤ a by omega)]
    simp)
theorem en_three {x y z : α} (h : Ev T ta σ G x) (h' : Ev T tb σ G y) (h'' : Ev T tc σ G z) : EvN T (tLst (tCons ta (tCons tb (tCons tc tNil)))) σ G [x, y, z] := en_lst (xs := [x, y, z]) (ea3 isD_ex isD_ex isD_ex h h' h'') (by show 3 ≤ 1000; decide)
theorem ev_sum {xs : List Int} (h : Ev T te σ G xs) : Ev T (tCB (rSum K) (tCons te tNil)) σ G xs.sum := fun H k Q q =>
  h H k _ fun v G1 H1 n1 r1 => by
    have r1 : Dq G1 v (.list (xs.map PyData.int)) := r1
    cases r1 with
    | @lst a vs _ g1 g2 =>
      rw [da_ints_eq g2] at g1
      exact ⟨a, xs, rfl, .inl (.inl (n1.kn.le _ _ g1)), q _ G1 H1 n1 (.int _)⟩
def EvL (T : Tbs) (ta : TA) (σ : L2.St) (G : Hp) (ds : List PyData) : Prop := ∀ H, Kn T G H → ∀ Q : List V → Hp → Prop, (∀ vs G2 H2, Nx T G H G2 H2 → DqAll G2 vs ds → Q vs H2) → ta σ H Q
theorem EvL.mono {ta : TA} {G2 : Hp} (h : EvL T ta σ G ds) (e : Ex G G2) : EvL T ta σ G2 ds := fun H k Q q => h H (k.sub e) Q fun v G3 H3 n r => by
  obtain ⟨G4, e4, n4⟩ := n.mono k e
  exact q v G4 H3 n4 (da_ex e4 r)
theorem el_nil : EvL T tNil σ G [] := fun H k Q q => q [] G H (Nx.refl k) .nil
theorem el_cons {tr : TA} {d : PyData} (h : EvR T ta σ G (IsD d)) (hr : EvL T tr σ G ds) : EvL T (tCons ta tr) σ G (d :: ds) := fun H k Q q =>
  h H k _ fun v G1 H1 n1 r1 => hr.mono n1.ex H1 n1.kn _ fun vs G2 H2 n2 r2 => q (v :: vs) G2 H2 (n1.trans n2) (.cons (dq_ex n2.ex r1) r2)
theorem el_star {tr : TA} (h : EvR T ta σ G (IsD (.list es))) (hr : EvL T tr σ G ds) : EvL T (StX.tStar K ta tr) σ G (es ++ ds) := fun H k Q q =>
  h H k _ fun v G1 H1 n1 r1 => by
    have r1 : Dq G1 v (.list es) := r1
    cases r1 with
    | @lst a us _ g1 g2 => exact ⟨a, us, rfl, .inr (.inl (.inl (n1.kn.le _ _ g1))), hr.mono n1.ex H1 n1.kn _ fun vs G2 H2 n2 r2 => q (us ++ vs) G2 H2 (n1.trans n2) (da_app (da_ex n2.ex g2) r2)⟩
theorem en_lstD {ta : TA} (h : EvL T ta σ G ds) (hl : ds.length ≤ 100000) : EvND T (tLst ta) σ G ds := fun H k Q q =>
  h H k _ fun vs G1 H1 n1 r1 => ⟨by
    rw [da_len r1]
    exact Nat.le_trans hl (by decide), fun p hp => q p vs G1 _ (n1.trans (Nx.fresh n1.kn hp)) (n1.dom p hp) (n1.kn.none hp) upd_same r1⟩
theorem down_at {a b : Int} {k : Nat} (h : k < (a - b).toNat) : (Sw.rngI (b + 1) (a + 1)).reverse[k]? = some (a - (k : Int)) := by
  have hl : (Sw.rngI (b + 1) (a + 1)).length = (a - b).toNat := by
    rw [Sw.len_rngI]
    omega
  rw [List.getElem?_reverse (by omega), hl, rngI_at (by omega)]
  congr 1
  omega
theorem src_dn {a b : Int} (ha : Ev T ta σ G a) (hb : Ev T tb σ G b) (hc : Ev T tc σ G (-1 : Int)) (hr : -1000000 ≤ a ∧ a ≤ 1000000 ∧ -1000000 ≤ b ∧ b ≤ 1000000 := by omega) : SrcG T (iRng3 (tCons ta (tCons tb (tCons tc tNil)))) σ G (fun x : Int => IsE x) (Sw.rngI (b + 1) (a + 1)).reverse := fun H k R q =>
  ha H k _ fun v G1 H1 n1 r1 => EvR.mono isD_ex hb n1.ex H1 n1.kn _ fun w G2 H2 n2 r2 => EvR.mono isD_ex hc (n1.ex.trans n2.ex) H2 n2.kn _ fun x G3 H3 n3 r3 => by
    rw [dq_int r1, dq_int r2, dq_int r3]
    refine ⟨a, b, -1, (a - b).toNat, rfl, RgC.neg (by omega) (by omega) (by omega) (by omega), q _ G3 H3 ((n1.trans n2).trans n3) ?_⟩
    have hl : (Sw.rngI (b + 1) (a + 1)).reverse.length = (a - b).toNat := by
      rw [List.length_reverse, Sw.len_rngI]
      omega
    rw [hl]
    refine (walk_rangeC (lo := a) (c := -1) (n := (a - b).toNat)).mono (fun _ _ => True.intro) fun l H' v H'' hl' hG y => ?_
    obtain ⟨e1, e2⟩ := y
    subst e1 e2
    refine ⟨_, down_at hl', fun G' _ k' => ⟨G', Nx.refl k', ?_⟩⟩
    have e : a + (l : Int) * -1 = a - (l : Int) := by omega
    show IsE (a - (l : Int)) G' (.int (a + (l : Int) * -1))
    rw [e]
    exact .int _
theorem st_forG {ι γ : Type} {RR : ι → Rp} {tg : ι → List Sl → List Sl} {xs : List ι} {wi : TI} {g : TG} (Γi : Nat → γ → List Sl) (ok : Nat → γ → Prop) (s : Sat T G0 H0 F Γ σ G H) (h : ∀ {G}, SatI (Γ.map hd) σ G → SrcG T wi σ G RR xs) (hg : TgS T g RR tg) (c0 : γ) (o0 : ok 0 c0) (h0 : Wk Γ (Γi 0 c0))
    (hs : ∀ F' i x c σ G H, Ex F F' → xs[i]? = some x → ok i c → Sat T G0 H0 F' (tg x (Γi i c)) σ G H → ts { D with nx := fun σ H => ∃ c' G, ok (i + 1) c' ∧ Sat T G0 H0 F' (Γi (i + 1) c') σ G H, ct := fun σ H => ∃ c' G, ok (i + 1) c' ∧ Sat T G0 H0 F' (Γi (i + 1) c') σ G H, bk := D.nx } σ H)
    (hd : ∀ c σ G H, ok xs.length c → Sat T G0 H0 F (Γi xs.length c) σ G H → D.nx σ H) : tFor wi g ts D σ H := h s.hdI H s.kn _ fun J G2 H2 n w => by
  refine for_it w (fun i σ H => ∃ c G, ok i c ∧ Sat T G0 H0 G2 (Γi i c) σ G H) ⟨c0, G2, o0, ((s.step n).floor (Ex.refl G2)).weak h0⟩ (fun i σ' H' _ ⟨c, G', _, s'⟩ => ⟨G', s'.fl, s'.kn.le⟩) (fun i v σ' H' H'' hi ⟨c, G', o, s'⟩ ⟨x, hx, hy⟩ => ?_) fun σ' H' ⟨c, G', o, s'⟩ => hd c _ G' _ o (s'.floor ((s.fl.trans n.ex).trans s'.fl))
  obtain ⟨G'', n2, r⟩ := hy G' s'.fl s'.kn
  exact hg (s'.step n2) r _ fun σ2 s2 => hs G2 i x c σ2 _ _ (s.fl.trans n.ex) hx o s2
/-- .. that may be broken off -/
theorem st_forGB {ι γ δ : Type} {RR : ι → Rp} {tg : ι → List Sl → List Sl} {xs : List ι} {wi : TI} {g : TG} (Γi : Nat → γ → List Sl) (ok : Nat → γ → Prop) (Γb : δ → List Sl) (okb : δ → Prop) (s : Sat T G0 H0 F Γ σ G H) (h : ∀ {G}, SatI (Γ.map hd) σ G → SrcG T wi σ G RR xs) (hg : TgS T g RR tg) (c0 : γ) (o0 : ok 0 c0) (h0 : Wk Γ (Γi 0 c0))
    (hs : ∀ F' i x c σ G H, Ex F F' → xs[i]? = some x → ok i c → Sat T G0 H0 F' (tg x (Γi i c)) σ G H → (∀ d σ G H, okb d → Sat T G0 H0 F' (Γb d) σ G H → D.nx σ H) → ts { D with nx := fun σ H => ∃ c' G, ok (i + 1) c' ∧ Sat T G0 H0 F' (Γi (i + 1) c') σ G H, ct := fun σ H => ∃ c' G, ok (i + 1) c' ∧ Sat T G0 H0 F' (Γi (i + 1) c') σ G H, bk := D.nx } σ H)
    (he : ∀ c, ok xs.length c → ∃ d, okb d ∧ Wk (Γi xs.length c) (Γb d)) (hd : ∀ d σ G H, okb d → Sat T G0 H0 F (Γb d) σ G H → D.nx σ H) : tFor wi g ts D σ H :=
  st_forG Γi ok s h hg c0 o0 h0 (fun F' i x c σ G H e hx o s' => hs F' i x c σ G H e hx o s' fun d σ G H od z => hd d σ G H od (z.floor (e.trans z.fl))) fun c σ G H o s' => by
    obtain ⟨d, od, w⟩ := he c o
    exact hd d σ G H od (s'.weak w)
theorem st_slc {ys : List PyData} {a b : Int} (s : Sat T G0 H0 F Γ σ G H) (hi : Γ[i]? = some (.ow (OL ds))) (nl : noLists ys = true) (hx : ∀ {G}, SatI (Γ.map fz) σ G → EvND T te σ G ys) (ha : ∀ {G}, SatI (Γ.map hd) σ G → Ev T ta σ G a) (hb : ∀ {G}, SatI (Γ.map hd) σ G → Ev T tb σ G b)
    (a0 : 0 ≤ a) (ab : a ≤ b) (b1 : b ≤ (ds.length : Int)) (hz : ds.length + ys.length ≤ 100000)
    (c : ∀ G H, Sat T G0 H0 F (Γ.set i (.ow (OL (ds.take a.toNat ++ ys ++ ds.drop b.toNat)))) σ G H → D.nx σ H) : tAsg te (gSlc (tVar i) (tPart ta) (tPart tb)) D σ H := by
  refine hx s.fzI H s.fz_kn _ fun q us G1 H1 n1 q0 hGq hq r1 => ?_
  have s1 := s.thaw n1
  have r1 := da_th (s.th_soft n1) nl r1
  -- the new list is known from now on
  have fr : ¬ Owned Γ σ q := s.fresh q0
  have e2 : Ex (thG Γ σ G1) (upd (thG Γ σ G1) q (.lst us)) := Ex.new (thG_none hGq)
  have s2 : Sat T G0 H0 F Γ σ (upd (thG Γ σ G1) q (.lst us)) H1 := ⟨s1.nx.freeze (s.nx.dom q q0) (thG_none hGq) hq nt_lst, s1.fl.trans e2, s1.im.ex e2, fun i O hO => by
    obtain ⟨p, o, y0, y1, y2, y3, y4⟩ := s1.ow i O hO
    have ne : p ≠ q := fun z => by
      subst z
      exact fr ⟨i, O, hO, y0⟩
    exact ⟨p, o, y0, y1, by rw [upd_ne ne]; exact y2, y3, O.mono e2 y4⟩, s1.sep⟩
  have r2 := da_ex e2 r1
  obtain ⟨p, vs, e, z1, z2, r⟩ := s2.own hi
  have hl := da_len r
  have hl2 := da_len r2
  refine ⟨.ref p, e, ha s2.hdI H1 s2.kn _ fun v G3 H3 n3 r3 => ?_⟩
  rw [dq_int r3]
  refine ⟨a, rfl, ?_⟩
  have s3 := s2.step n3
  refine hb s3.hdI H3 s3.kn _ fun w G4 H4 n4 r4 => ?_
  rw [dq_int r4]
  refine ⟨b, rfl, ?_⟩
  have s4 := s3.step n4
  obtain ⟨y1, y2⟩ := stays (n3.trans n4) z1 z2 nt_lst nu_lst
  have hq4 : H4 q = some (.lst us) := (n3.trans n4).keep q _ hq nt_lst
  have ne : p ≠ q := fun z => by
    subst z
    exact fr ⟨i, _, hi, e⟩
  refine ⟨p, q, vs, us, a, b, rfl, rfl, y2, hq4, ne, rfl, rfl, a0, ab, by omega, Nat.le_trans (show vs.length + us.length ≤ 100000 by omega) (by decide), c G4 _ (s4.mut hi e ⟨_, rfl, ?_⟩)⟩
  have e34 := n3.ex.trans n4.ex
  exact da_app (da_app (da_take _ (da_ex e34 r)) (da_ex e34 r2)) (da_drop _ (da_ex e34 r))
end
end Ho

set_option Elab.async false
set_option linter.all false
set_option maxRecDepth 100000
namespace Ho
open PySem PySem.Spec PySem.Calls PyProof.Rows L2 LamX NdefX Ed Ru
open Ed.Enc (enc)
def OLa (p0 : Addr) (ds : List PyData) : Ow where
  P := fun G p o => p = p0 ∧ ∃ vs, o = .lst vs ∧ DqAll G vs ds
  R := IsD (.list ds)
  mono := fun e ⟨h0, vs, h, r⟩ => ⟨h0, vs, h, da_ex e r⟩
  soft := fun ⟨_, vs, h, _⟩ => by rw [h]; trivial
  toR := fun e ⟨_, vs, h, r⟩ => by
    subst h
    exact .lst e r
  monoR := isD_ex
/-- what is wished behind a call that changes the list at p and tells a new object -/
def WishM (T : Tbs) (G H : Hp) (p : Addr) (Q : VK) (ds' : List PyData) (O : Ow) : Prop := ∀ (q : Addr) (o : HO) (G2 H2 : Hp) (us : List V), Nx T G (hid p H) G2 H2 → H q = none → G2 q = none → H2 q = some o → O.P G2 q o → G2 p = none → H2 p = some (.lst us) → DqAll G2 us ds' → Q (.ref q) H2
def SpM (T : Tbs) {β : Type} (pre : β → Prop) (ds : β → List PyData) (Rs : β → List Rp) (ds' : β → List PyData) (O : β → Ow) : Sp := fun vs H Q E => ∃ (b : β) (G : Hp) (p : Addr) (us ws : List V), pre b ∧ vs = .ref p :: ws ∧ Kn T G H ∧ G p = none ∧ H p = some (.lst us) ∧ DqAll G us (ds b) ∧ AllR G ws (Rs b) ∧ WishM T G H p Q (ds' b) (O b)
section
variable {T : Tbs} {K : PySem.W.Frag} {σ : L2.St} {G0 H0 F G H G2 H2 : Hp} {Γ Γ' : List Sl} {O : Ow} {R R' : Rp} {i j : Nat} {te tl ta tb tc td : TE} {D : Ends} {t : TT} {tu tw ts : TS} {α β : Type} [Enc α] [Enc β] {ds es ds' : List PyData} {p : Addr}
theorem nx_hid (k : Kn T G H) (hG : G p = none) (nt : ∀ ps, H p ≠ some (.tbl ps)) : Nx T G (hid p H) G H :=
  ⟨Ex.refl G, k, fun a o e _ => hid_ex a o e, fun a e => by
    by_cases c : a = p
    · subst c
      exact hid_at
    · rw [hid_ne c]
      exact e, fun a e => .inl e, fun a ps e => ⟨ps, hid_ex a _ e⟩⟩
theorem Nx.callM (n : Nx T G0 H0 G H) (m : Nx T G (hid p H) G2 H2) (h0 : H0 p = none) : Nx T G0 H0 G2 H2 := by
  have up : ∀ a o, H0 a = some o → H a = some o → hid p H a = some o := fun a o e e2 => by
    have ne : a ≠ p := ne_of_none e h0
    rw [hid_ne ne]
    exact e2
  refine ⟨n.ex.trans m.ex, m.kn, fun a o e nt => m.keep a o (up a o e (n.keep a o e nt)) nt, fun a e => ?_, fun a e => ?_, fun a ps e => ?_⟩
  · have z := m.dom a e
    by_cases c : a = p
    · subst c
      exact h0
    · rw [hid_ne c] at z
      exact n.dom a z
  · rcases n.sep a e with z | z | z
    · rcases m.sep a z with y | y | ⟨xs, y⟩
      · exact .inl y
      · by_cases c : a = p
        · subst c
          exact .inr (.inl h0)
        · rw [hid_ne c] at y
          exact .inr (.inl (n.dom a y))
      · have y := hid_ex a _ y
        cases q : H0 a with
        | none => exact .inr (.inl rfl)
        | some o =>
          by_cases t : ∃ ps, o = .tbl ps
          · obtain ⟨ps, rfl⟩ := t
            obtain ⟨ps2, h2⟩ := n.tbs a ps q
            rw [y] at h2
            cases h2
          · have h2 := n.keep a o q fun ps e => t ⟨ps, e⟩
            rw [y] at h2
            exact .inr (.inr ⟨xs, by rw [← h2]⟩)
    · exact .inr (.inl z)
    · exact .inr (.inr z)
  · obtain ⟨ps2, h2⟩ := n.tbs a ps e
    have ne : a ≠ p := ne_of_none e h0
    exact m.tbs a ps2 (by rw [hid_ne ne]; exact h2)
theorem Sat.callM {us : List V} (s : Sat T G0 H0 F Γ σ G H) (hi : Γ[i]? = some (.ow O)) (hs : σ[i]? = some (some (.ref p))) (m : Nx T G (hid p H) G2 H2) (hG : G2 p = none) (hH : H2 p = some (.lst us)) (hD : DqAll G2 us ds') : Sat T G0 H0 F (Γ.set i (.ow (OL ds'))) σ G2 H2 := by
  obtain ⟨p', o, e, z0, z1, z2, z3⟩ := s.ow i O hi
  rw [hs] at e
  cases e
  refine ⟨Nx.callM s.nx m z0, s.fl.trans m.ex, (s.im.ex m.ex).upOw, fun j O1 h => ?_, fun j k O1 O2 q hj hk ej ek => ?_⟩
  · rcases get_set h with ⟨e1, e, hl⟩ | ⟨e1, e⟩
    · subst e1
      cases e
      exact ⟨p, _, hs, z0, hG, hH, us, rfl, hD⟩
    · obtain ⟨q, u, q1, y0, y1, y2, y3⟩ := s.ow j O1 e
      have ne : q ≠ p := fun z => by
        subst z
        exact e1 (s.sep i j O O1 q hi e hs q1)
      have y2' : hid p H q = some u := by
        rw [hid_ne ne]
        exact y2
      obtain ⟨w1, w2⟩ := stays m y1 y2' (soft_nt (O1.soft y3)) (soft_nu (O1.soft y3))
      exact ⟨q, u, q1, y0, w1, w2, O1.mono m.ex y3⟩
  · have lk : ∀ {j : Nat} {O1 : Ow}, (Γ.set i (.ow (OL ds')))[j]? = some (.ow O1) → ∃ O2, Γ[j]? = some (.ow O2) := fun {j O1} h => by
      rcases get_set h with ⟨e1, e, hl⟩ | ⟨e1, e⟩
      · subst e1
        exact ⟨O, hi⟩
      · exact ⟨O1, e⟩
    obtain ⟨A, a⟩ := lk hj
    obtain ⟨B, b⟩ := lk hk
    exact s.sep j k A B q a b ej ek
/-- xs.extend(f(ys, e)), xs and ys own lists, f changes ys -/
theorem st_extM {γ : Type} {pre : γ → Prop} {da db : γ → List PyData} {Rs : γ → List Rp} {O' : γ → Ow} {E : XK} {ms : List PyData} (b : γ) (hb : pre b) (s : Sat T G0 H0 F Γ σ G H) (hm : Γ[j]? = some (.ow (OL ms))) (hi : Γ[i]? = some (.ow (OL (da b)))) (ne : i ≠ j) (hR : Rs b = [R]) (hO : O' b = OL es) (hz : ms.length + es.length < 100000)
    (h : ∀ {G}, SatI (Γ.map hd) σ G → EvR T te σ G R) (c : ∀ G H, Sat T G0 H0 F ((Γ.set i (.ow (OL (db b)))).set j (.ow (OL (ms ++ es)))) σ G H → D.nx σ H) :
    tDrop (tBM K "list" rExtend (tVar j) (tCons (tCall (SpM T pre da Rs db O') [] E (tCons (tVar i) (tCons te tNil))) tNil)) D σ H := by
  obtain ⟨q, ws, eq, y1, y2, yr⟩ := s.own hm
  obtain ⟨p, us, ep, z1, z2, zr⟩ := s.own hi
  refine ⟨.ref q, eq, tyV_lst y2, .ref p, ep, h s.hdI H s.kn _ fun v G1 H1 n1 r1 => ?_⟩
  have s1 := s.step n1
  obtain ⟨z1', z2'⟩ := stays n1 z1 z2 nt_lst nu_lst
  obtain ⟨y1', y2'⟩ := stays n1 y1 y2 nt_lst nu_lst
  show SpM T pre da Rs db O' [V.ref p, v] H1 _ E
  refine ⟨b, G1, p, us, [v], hb, rfl, s1.kn, z1', z2', da_ex n1.ex zr, ?_, ?_⟩
  · rw [hR]
    exact ⟨r1, True.intro⟩
  · rw [hO]
    rintro r o G2 H2 us2 m r0 rG rH ⟨rs, rfl, rD⟩ pG pH pD
    have npq : q ≠ p := fun z => by
      subst z
      exact ne (s.sep i j _ _ q hi hm ep eq)
    have y2'' : hid p H1 q = some (.lst ws) := by
      rw [hid_ne npq]
      exact y2'
    obtain ⟨x1, x2⟩ := stays m y1' y2'' nt_lst nu_lst
    have s2 := s1.callM hi ep m pG pH pD
    have l1 := da_len yr
    have l2 := da_len rD
    have hm2 : (Γ.set i (.ow (OL (db b))))[j]? = some (.ow (OL ms)) := by
      rw [List.getElem?_set_ne ne]
      exact hm
    refine ⟨q, r, ws, rs, rfl, rfl, x2, rH, Nat.le_of_lt (Nat.lt_of_lt_of_le (show ws.length + rs.length < 100000 by omega) (by decide)), c G2 _ (s2.mut hm2 eq ⟨_, rfl, da_app (da_ex (n1.ex.trans m.ex) yr) rD⟩)⟩
theorem st_putA {d : PyData} {k : Int} {p0 : Addr} (s : Sat T G0 H0 F Γ σ G H) (hi : Γ[i]? = some (.ow (OLa p0 ds))) (hx : ∀ {G}, SatI (Γ.map hd) σ G → EvR T te σ G (IsD d)) (hk : ∀ {G}, SatI (Γ.map hd) σ G → Ev T ta σ G k) (h0 : 0 ≤ k) (h1 : k < (ds.length : Int))
    (c : ∀ G H, Sat T G0 H0 F (Γ.set i (.ow (OLa p0 (ds.set k.toNat d)))) σ G H → D.nx σ H) : tAsg te (gSub (tVar i) ta rSetL) D σ H := by
  refine hx s.hdI H s.kn _ fun v G1 H1 n1 r1 => ?_
  have s1 := s.step n1
  obtain ⟨p, o, e, z0, z1, z2, ep, vs, rfl, r⟩ := s1.ow i _ hi
  refine ⟨.ref p, e, hk s1.hdI H1 s1.kn _ fun w G2 H2 n2 r2 => ?_⟩
  have s2 := s1.step n2
  obtain ⟨y1, y2⟩ := stays n2 z1 z2 nt_lst nu_lst
  have hl := da_len r
  rw [dq_int r2]
  refine ⟨p, vs, k, k.toNat, rfl, rfl, y2, ix_nn h0 (by omega), c G2 _ (s2.mut hi e ⟨ep, _, rfl, ?_⟩)⟩
  exact da_set k.toNat (da_ex n2.ex r) (isD_ex.ex n2.ex r1)
/-- return xs, xs own, the list handed in as it is now -/
theorem st_retM {Q : VK} {p0 : Addr} (s : Sat T G (hid p0 H) F Γ σ G2 H2) (h0 : Γ[0]? = some (.ow (OLa p0 ds'))) (hj : Γ[j]? = some (.ow O)) (nj : 0 ≠ j) (c : WishM T G H p0 Q ds' O) (hQ : D.rt = Q) : tRet (tVar j) D σ H2 := by
  obtain ⟨p, o, e, z0, z1, z2, rfl, us, rfl, zD⟩ := s.ow 0 _ h0
  obtain ⟨q, o, eq, y0, y1, y2, y3⟩ := s.ow j O hj
  have ne : q ≠ p := fun z => by
    subst z
    exact nj (s.sep 0 j _ _ q h0 hj e eq)
  refine ⟨_, eq, ?_⟩
  rw [hQ]
  rw [hid_ne ne] at y0
  exact c q o G2 H2 us s.nx y0 y1 y2 y3 z1 z2 zD
def SrcZ (T : Tbs) (wi : TI) (σ : L2.St) (G : Hp) (xs : List Int) : Prop := ∀ H, Kn T G H → ∀ R : It → Hp → Prop, (∀ J G2 H2, Nx T G H G2 H2 → Walk J xs.length (fun _ => True) (fun i H' v H'' => H'' = H' ∧ ∃ x, xs[i]? = some x ∧ v = .int x) → R J H2) → wi σ H R
theorem srz_dn {a b : Int} (ha : Ev T ta σ G a) (hb : Ev T tb σ G b) (hc : Ev T tc σ G (-1 : Int)) (hr : -1000000 ≤ a ∧ a ≤ 1000000 ∧ -1000000 ≤ b ∧ b ≤ 1000000 := by omega) : SrcZ T (iRng3 (tCons ta (tCons tb (tCons tc tNil)))) σ G (Sw.rngI (b + 1) (a + 1)).reverse := fun H k R q =>
  ha H k _ fun v G1 H1 n1 r1 => EvR.mono isD_ex hb n1.ex H1 n1.kn _ fun w G2 H2 n2 r2 => EvR.mono isD_ex hc (n1.ex.trans n2.ex) H2 n2.kn _ fun x G3 H3 n3 r3 => by
    rw [dq_int r1, dq_int r2, dq_int r3]
    refine ⟨a, b, -1, (a - b).toNat, rfl, RgC.neg (by omega) (by omega) (by omega) (by omega), q _ G3 H3 ((n1.trans n2).trans n3) ?_⟩
    have hl : (Sw.rngI (b + 1) (a + 1)).reverse.length = (a - b).toNat := by
      rw [List.length_reverse, Sw.len_rngI]
      omega
    rw [hl]
    refine (walk_rangeC (lo := a) (c := -1) (n := (a - b).toNat)).mono (fun _ _ => True.intro) fun l H' v H'' hl' hG y => ?_
    obtain ⟨e1, e2⟩ := y
    refine ⟨e1, _, down_at hl', ?_⟩
    rw [e2]
    have e : a + (l : Int) * -1 = a - (l : Int) := by omega
    show V.int (a + (l : Int) * -1) = _
    rw [e]
theorem srz_r2 {a b : Int} (ha : Ev T ta σ G a) (hb : Ev T tb σ G b) (hr : -1000000 ≤ a ∧ a ≤ 1000000 ∧ -1000000 ≤ b ∧ b ≤ 1000000 := by omega) : SrcZ T (iRng2 (tCons ta (tCons tb tNil))) σ G (Sw.rngI a b) := fun H k R q =>
  ha H k _ fun v G1 H1 n1 r1 => EvR.mono isD_ex hb n1.ex H1 n1.kn _ fun w G2 H2 n2 r2 => by
    rw [dq_int r1, dq_int r2]
    refine ⟨a, b, rfl, ⟨by omega, by omega, by omega, by omega⟩, q _ G2 H2 (n1.trans n2) ?_⟩
    rw [Sw.len_rngI]
    refine walk_range.mono (fun _ _ => True.intro) fun l H' v H'' hl hG y => ?_
    obtain ⟨e1, e2⟩ := y
    exact ⟨e1, _, rngI_at hl, e2⟩
theorem srz_r1 {b : Int} (hb : Ev T tb σ G b) (hr : -1000000 ≤ b ∧ b ≤ 1000000 := by omega) : SrcZ T (iRng1 (tCons tb tNil)) σ G (Sw.rngI 0 b) := fun H k R q =>
  hb H k _ fun w G2 H2 n2 r2 => by
    rw [dq_int r2]
    refine ⟨b, rfl, by omega, by omega, q _ G2 H2 n2 ?_⟩
    rw [Sw.len_rngI, Int.sub_zero]
    refine walk_range.mono (fun _ _ => True.intro) fun l H' v H'' hl hG y => ?_
    obtain ⟨e1, e2⟩ := y
    exact ⟨e1, _, rngI_at (by rw [Int.sub_zero]; exact hl), e2⟩
theorem st_forGZ {γ : Type} {tg : Int → List Sl → List Sl} {xs : List Int} {wi : TI} {g : TG} (Γi : Nat → γ → List Sl) (ok : Nat → γ → Prop) (s : Sat T G0 H0 F Γ σ G H) (h : ∀ {G}, SatI (Γ.map fz) σ G → SrcZ T wi σ G xs) (hg : TgS T g (fun x : Int => IsE x) tg) (c0 : γ) (o0 : ok 0 c0) (h0 : Wk Γ (Γi 0 c0))
    (hs : ∀ F' i x c σ G H, Ex F F' → xs[i]? = some x → ok i c → Sat T G0 H0 F' (tg x (Γi i c)) σ G H → ts { D with nx := fun σ H => ∃ c' G, ok (i + 1) c' ∧ Sat T G0 H0 F' (Γi (i + 1) c') σ G H, ct := fun σ H => ∃ c' G, ok (i + 1) c' ∧ Sat T G0 H0 F' (Γi (i + 1) c') σ G H, bk := D.nx } σ H)
    (hd : ∀ c σ G H, ok xs.length c → Sat T G0 H0 F (Γi xs.length c) σ G H → D.nx σ H) : tFor wi g ts D σ H := h s.fzI H s.fz_kn _ fun J G2 H2 n w => by
  have s0 := s.thaw n
  refine for_it w (fun i σ' H' => ∃ c G', ok i c ∧ Sat T G0 H0 (thG Γ σ G2) (Γi i c) σ' G' H') ⟨c0, _, o0, (s0.floor (Ex.refl _)).weak h0⟩ (fun i σ' H' _ _ => True.intro) (fun i v σ' H' H'' hi ⟨c, G', o, s'⟩ ⟨e1, x, hx, e2⟩ => ?_) fun σ' H' ⟨c, G', o, s'⟩ => hd c _ G' _ o (s'.floor (s0.fl.trans s'.fl))
  subst e1 e2
  exact hg s' (show IsE x G' (.int x) from .int _) _ fun σ2 s2 => hs _ i x c σ2 _ _ s0.fl hx o s2
theorem st_forGBZ {γ δ : Type} {tg : Int → List Sl → List Sl} {xs : List Int} {wi : TI} {g : TG} (Γi : Nat → γ → List Sl) (ok : Nat → γ → Prop) (Γb : δ → List Sl) (okb : δ → Prop) (s : Sat T G0 H0 F Γ σ G H) (h : ∀ {G}, SatI (Γ.map fz) σ G → SrcZ T wi σ G xs) (hg : TgS T g (fun x : Int => IsE x) tg) (c0 : γ) (o0 : ok 0 c0) (h0 : Wk Γ (Γi 0 c0))
    (hs : ∀ F' i x c σ G H, Ex F F' → xs[i]? = some x → ok i c → Sat T G0 H0 F' (tg x (Γi i c)) σ G H → (∀ d σ G H, okb d → Sat T G0 H0 F' (Γb d) σ G H → D.nx σ H) → ts { D with nx := fun σ H => ∃ c' G, ok (i + 1) c' ∧ Sat T G0 H0 F' (Γi (i + 1) c') σ G H, ct := fun σ H => ∃ c' G, ok (i + 1) c' ∧ Sat T G0 H0 F' (Γi (i + 1) c') σ G H, bk := D.nx } σ H)
    (he : ∀ c, ok xs.length c → ∃ d, okb d ∧ Wk (Γi xs.length c) (Γb d)) (hd : ∀ d σ G H, okb d → Sat T G0 H0 F (Γb d) σ G H → D.nx σ H) : tFor wi g ts D σ H :=
  st_forGZ Γi ok s h hg c0 o0 h0 (fun F' i x c σ G H e hx o s' => hs F' i x c σ G H e hx o s' fun d σ G H od z => hd d σ G H od (z.floor (e.trans z.fl))) fun c σ G H o s' => by
    obtain ⟨d, od, w⟩ := he c o
    exact hd d σ G H od (s'.weak w)
end
section
variable {P : Program} {w : World} {K : PySem.W.Frag} {mg : Str → Option Value} {base : Heap} {T : Tbs}
theorem def_okM {β : Type} {pre : β → Prop} {da db : β → List PyData} {Rs : β → List Rp} {O : β → Ow} {x qual : Str} {st : Stmt} {f : Addr} {fd : FuncData} {N ps : List Str} {k : Nat} (F : Fun K x qual st f fd) (S : FnScope N ps (defScope st)) (hl : ∀ b, (Rs b).length + 1 = ps.length) (hm : ∀ b, MonoA (Rs b))
    (body : ∀ b, pre b → ∀ (cdv : Value) (A : Around) (outer : List Env) (s : Shared) (G H : Hp) (σ : L2.St) (p : Addr) (Q : VK) (E : XK), Room k (A.deeper (envOfC qual (defScope st) s.heap.objs.size f cdv)) → WishM T G H p Q (db b) (O b) → Sat T G (hid p H) G (.ow (OLa p (da b)) :: G0s (Rs b) (N.length - ps.length)) σ G H →
      ∃ t, PSs (cxOf CX0 P w K mg base N qual (defScope st) f cdv A outer s H E).nox (defBody st) t ∧ t { nx := fun _ H' => Q .non H', rt := Q } σ H) : FnOk P w K mg base CX0 (k + 1) f fd ps (SpM T pre da Rs db O) := by
  refine F.ok S (fun vs H Q E h => ?_) (fun cdv A outer s H vs Q E hr h => ?_)
  · obtain ⟨b, G, p, us, ws, _, rfl, _, _, _, _, w, _⟩ := h
    rw [List.length_cons, allR_len w, hl]
  · obtain ⟨b, G, p, us, ws, hb, rfl, k, hG, hH, hD, w, q⟩ := h
    refine body b hb cdv A outer s G H _ p Q E hr q ?_
    have z := satI_start (N := N.tail) (hm b) w
    have e1 : N.tail.length - (Rs b).length = N.length - ps.length := by
      rw [List.length_tail]
      have := hl b
      omega
    rw [e1] at z
    have e2 : L2.start N (.ref p :: ws) = some (.ref p) :: L2.start N.tail ws := by
      unfold L2.start
      rw [List.map_cons, List.cons_append, List.length_tail, List.length_cons]
      congr 3
      omega
    rw [e2]
    refine ⟨nx_hid k hG (fun ps e => by rw [hH] at e; cases e), Ex.refl G, ⟨congrArg Nat.succ z.len, fun i R h => ?_, fun i R h => ?_⟩, fun i O' h => ?_, fun i j O1 O2 r h1 h2 _ _ => ?_⟩
    · cases i with
      | zero => cases h
      | succ i => exact z.mo i R h
    · cases i with
      | zero => cases h
      | succ i => exact z.at_ i R h
    · cases i with
      | zero =>
        cases h
        exact ⟨p, _, rfl, hid_at, hG, hH, rfl, us, rfl, hD⟩
      | succ i => exact absurd h g0s_now
    · cases i with
      | zero =>
        cases j with
        | zero => rfl
        | succ j => exact absurd h2 g0s_now
      | succ i => exact absurd h1 g0s_now
end
end Ho

set_option Elab.async false
set_option linter.all false
set_option maxRecDepth 100000
namespace L2
open PySem PySem.Spec PyProof.Rows
/-- a caught error, kept: its class, its own dict -/
def KpO (cls : Value) (d : Option Addr) (a : Addr) : HO := .ext fun h => ∃ (e : Obj), h.get? a = some e ∧ Zc cls d e ∧ ∃ vs, e.data = .fields vs
theorem kpO_ok {P : Program} {w : World} {H : Hp} {h : Heap} {a : Addr} {cls : Value} {d : Option Addr} {e : Obj} (g : h.get? a = some e) (z : Zc cls d e) (f : ∃ vs, e.data = .fields vs) : ObjOk P w H h a (KpO cls d a) :=
  ⟨⟨e, g, z, f⟩, ⟨e, g⟩, fun _ _ ⟨o, q, r⟩ k => ⟨o, k o q, r⟩⟩
section
variable {X : Cx} {pins : List (Addr × Obj)} {σ : St} {H : Hp} {s : Shared}
/-- an object that nobody tracks, tracked from now on -/
theorem Inv.trackNew {a : Addr} {o : HO} {e : Obj} {vs : Array Value} (I : Inv X pins σ H s) (g : s.heap.get? a = some e) (f : e.data = .fields vs) (n : H a = none) (n0 : X.s_0.heap.get? a = none) (nl : a ≠ X.env.locals) (np : ∀ p ∈ X.pn ++ pins, p.1 ≠ a)
    (ok : ObjOk X.prog X.w (upd H a o) s.heap a o) : Inv X pins σ (upd H a o) s := by
  have old : ∀ b u, X.s_0.heap.get? b = some u → b ≠ a := fun b u q z => by
    subst z
    rw [n0] at q
    cases q
  have trk : ∀ b u, H b = some u → (upd H a o) b = some u := fun b u q => by
    rw [upd_ne fun z => by subst z; rw [n] at q; cases q]
    exact q
  refine ⟨I.ok, I.os, I.bare, ⟨I.base.keep, I.base.slot, fun b u q1 q2 q3 => ?_, I.base.there, fun b xs q => trk _ _ (I.base.tups b xs q), fun b u v q => trk _ _ (I.base.frzs b u v q), fun b ps q => ?_⟩, I.loc, I.cell, ?_, fun x c q => ?_, fun p hp => ?_, ?_, I.len⟩
  · rw [upd_ne (old b u q1)]
    exact I.base.free b u q1 q2 q3
  · obtain ⟨m, z⟩ := I.base.tbls b ps q
    exact ⟨m, trk _ _ z⟩
  · rw [upd_ne fun z => nl z.symm]
    exact I.free
  · have ne : c ≠ a := fun z => by
      subst z
      obtain ⟨v, u, h1, h2⟩ := I.cell x c q
      rw [g] at h1
      cases h1
      rw [f] at h2
      cases h2
    rw [upd_ne ne]
    exact I.freeC x c q
  · obtain ⟨h1, h2, h3⟩ := I.pin p hp
    refine ⟨h1, ?_, h3⟩
    rw [upd_ne (np p hp)]
    exact h2
  · exact HOk.laidN I.hok (fun _ _ z => z) n ok
end
/-- what such a clause wishes: the error is of its class, and is tracked behind the suite -/
def wKeep (K : PySem.W.Frag) (c : Value) (i : Nat) (ts : Addr → TS) (D : Ends) : WX := fun cls d σ H =>
  PySem.W.exmOne K cls c = some true ∧ ∀ a, H a = none → ts a { nx := fun σ' H' => H' a = none ∧ D.nx (σ'.set i none) (upd H' a (KpO cls d a)), rt := fun _ _ => False } (σ.set i (some (.ref a))) H
section
variable {X : Cx} {x n : Str} {c : Value} {i : Nat} {body suite : List Stmt} {b₀ : Stmt} {np pos pos' : Pos} {tb : WX → TS} {ts : Addr → TS}
theorem ps_try_keep (hs : X.stack = X.env :: X.outer) (hf : X.env.frame = some X.env.locals) (hex : X.ex = []) (hN : X.N.Nodup) (hi : X.N[i]? = some n) (hln : X.env.kindOf n = some .local) (hc : Names X x c)
    (hb : ∀ (W : WX) (pn : List (Addr × Obj)) (xe : Value → Shared → Prop), Takes (X.tr pn xe) W → PassesOwn (model X.prog X.w) X.A X.env xe → PSs (X.tr pn xe) body (tb W))
    (hsu : ∀ (a : Addr) (oe : Obj) (cls : Value) (d : Option Addr) (pn : List (Addr × Obj)), Zc cls d oe → (∃ vs, oe.data = .fields vs) → PSs (X.suite a ((a, oe) :: pn)) (b₀ :: suite) (ts a)) :
    PS X (.Try body [.ExceptHandler (some (.Name x np)) (some n) (b₀ :: suite) pos'] [] [] pos) (fun D σ H => tb (wKeep X.K c i ts D) D σ H) := by
  constructor
  intro pins s σ H D I h
  have ok := I.ok
  have hfr : X.A.frames = some (X.env :: X.outer) := ok.frames.trans (congrArg some hs)
  apply wpAny_Try_except
  refine wpAny_mono ((hb (wKeep X.K c i ts D) (X.pn ++ pins)
    (fun e s₁ => wpAny (model X.prog X.w) X.A (noteFrame e X.env)
      (fun _ s₂ => wpAny (model X.prog X.w) X.A (setFlight e none)
        (fun _ s₃ => wpAny (model X.prog X.w) X.A (handleBy e X.env [.ExceptHandler (some (.Name x np)) (some n) (b₀ :: suite) pos'])
          (SP X pins D) X.xe s₃) X.xe s₂) X.xe s₁) (fun u s' xx => ?_) PassesOwn.looking).run [] s σ H D (I.toTry _) h) (fun fl s1 hsp => ?_) (fun e s1 he => he)
  · obtain ⟨a, B, sI, pins', σ', H', cls, d, hu, J', nb, up, sky, na, os, ag, hb1, hyes⟩ := xx
    subst hu
    have J : Inv X pins σ' H' sI := J'.ofTry ok
    rw [hs] at sky
    show wpAny (model X.prog X.w) X.A (noteFrame (.ref a) X.env) _ _ _
    refine Sky.land Zc.steady hfr hf sky fun h3 fl3 up3 => ?_
    have up13 := up.trans up3
    have J3 : Inv X pins σ' H' { s' with heap := h3 } := J.landed nb fl3.1 up13 os ag
    have aB := fl3.2.1
    obtain ⟨oe3, vs3, he3, hz3, hd3⟩ := fl3.there
    have nfr : a ∉ frs (X.env :: X.outer) := fun hm => by
      obtain ⟨_, o', e', hnf⟩ := fl3.2.2.1.mem hm
      rw [he3] at e'
      cases e'
      exact hnf _ hd3
    have nfs : a ∉ frs X.stack := by
      rw [hs]
      exact nfr
    have nL : a ≠ X.env.locals := fun z => nfr (List.mem_filterMap.mpr ⟨X.env, List.mem_cons_self, hf.trans (congrArg some z.symm)⟩)
    have nF : a ∉ X.fs := fun hm => by
      obtain ⟨e, h1, h2⟩ := List.mem_filterMap.mp hm
      exact nfr (List.mem_filterMap.mpr ⟨e, List.mem_cons_of_mem _ h1, h2⟩)
    -- the error is younger than all that the def found
    have nI : sI.heap.get? a = none := by
      cases e : sI.heap.get? a with
      | none => rfl
      | some o =>
        have z := nb a o e nfs
        rw [aB] at z
        cases z
    have n0 : X.s_0.heap.get? a = none := by
      cases e : X.s_0.heap.get? a with
      | none => rfl
      | some o =>
        obtain ⟨o', z⟩ := J.base.there a o e (by rw [hex]; exact fun z => nomatch z)
        rw [nI] at z
        cases z
    have npin : ∀ p ∈ X.pn ++ pins, p.1 ≠ a := fun p hp z => by
      have q := (J.pin p hp).1
      rw [z, nI] at q
      cases q
    have S3 := J3.suite he3 hd3 na nL nF
    refine wpAny_handleBy_cons (codeAny_handlers_test ?_) (by intro q; cases q)
    have LT : PySem.W.Looks (model X.prog X.w) h3 (typeOf (.ref a)) cls := fun A Q E s k q => by
      refine wpAny_typeOf_ref (k _ _ he3) ?_
      rw [hz3.1]
      exact q
    have LM := PySem.W.exm_one (M := model X.prog X.w) (J3.kIn) LT hb1
    have test : ∀ {Q : Value → Shared → Prop} {E : Value → Shared → Prop}, Q c { s' with heap := h3 } →
        wpAny (model X.prog X.w) (X.A.mark (some (.ref a))) (eval (.Name x np) X.env) Q E { s' with heap := h3 } := fun {Q E} q => by
      rcases hc with ⟨hg, hdbg, hm⟩
      rcases hm with hm | ⟨hm, hv, hnn⟩
      · exact ld_glob (X := X.suite a ((a, oe3) :: (X.pn ++ pins))) S3 hg hm q hdbg
      · exact ld_blt (X := X.suite a ((a, oe3) :: (X.pn ++ pins))) S3 hg hm hv q hnn hdbg
    refine test (LM.here ?_)
    apply codeAny_handlers_suite_as
    refine HandSPX.lands_againZ fl3 fun h4 fl4 up4 => ?_
    have J4 : Inv X pins σ' H' { s' with heap := h4 } := J.landed nb fl4.1 (up13.trans up4) os ag
    obtain ⟨oe4, vs4, he4, hz4, hd4⟩ := fl4.there
    have S4 := J4.suite he4 hd4 na nL nF
    refine store_ok (X := X.suite a ((a, oe4) :: (X.pn ++ pins))) (v := .ref a) S4 hN hi (.inl hln) rfl (fun s5 S5 => ?_) (.inr hln)
    refine wpAny_mono ((hsu a oe4 cls d (X.pn ++ pins) hz4 ⟨_, hd4⟩).run [] s5 _ H' _ S5 (hyes a na)) (fun fl s6 hsp => ?_) (fun _ _ z => z.elim)
    cases fl with
    | next =>
      obtain ⟨σ6, H6, S6, n6, q6⟩ := hsp
      obtain ⟨g6, _⟩ := S6.pin (a, oe4) (List.mem_append.mpr (.inl List.mem_cons_self))
      have J6 : Inv X pins σ6 H6 s6 := S6.unsuite ok
      have J7 := J6.trackNew (o := KpO cls d a) g6 hd4 n6 n0 nL npin (kpO_ok g6 hz4 ⟨_, hd4⟩)
      exact gone_ok J7 hN hi hln fun s7 J8 => ⟨_, _, J8, q6⟩
    | brk =>
      obtain ⟨_, _, _, z⟩ := hsp
      exact z.elim
    | cont =>
      obtain ⟨_, _, _, z⟩ := hsp
      exact z.elim
    | ret u =>
      obtain ⟨_, _, _, _, _, z⟩ := hsp
      exact z.elim
  · cases fl with
    | next =>
      obtain ⟨a1, a2, a3, a4⟩ := hsp
      exact wpAny_execs_nil ⟨a1, a2, a3.ofTry ok, a4⟩
    | brk =>
      obtain ⟨a1, a2, a3, a4⟩ := hsp
      exact ⟨a1, a2, a3.ofTry ok, a4⟩
    | cont =>
      obtain ⟨a1, a2, a3, a4⟩ := hsp
      exact ⟨a1, a2, a3.ofTry ok, a4⟩
    | ret u =>
      obtain ⟨a0, a1, a2, a3, a4, a5⟩ := hsp
      exact ⟨a0, a1, a2, a3.ofTry ok, a4, a5⟩
/-- isinstance(e, c), e a kept error -/
def rIsKp (K : PySem.W.Frag) : List V → Hp → VK → Prop := fun xs H Q => ∃ (a D : Addr) (d : Option Addr) (c : V) (cv : Value) (b : Bool), xs = [.ref a, c] ∧ H a = some (KpO (.ref D) d a) ∧ ExcC K D ∧ d = none ∧ (∀ u, RelV c u → u = cv) ∧ PySem.W.kitOne K (.ref D) cv = some b ∧ Q (.bl b) H
end
end L2
namespace L2
open PySem PySem.Spec PyProof.Rows
theorem call_isKp {X : Cx} {K : PySem.W.Frag} (hK : X.K = K) : CallR X (.builtin "isinstance") (rIsKp K) := by
  subst hK
  intro pins s σ H xs us Q I r h
  obtain ⟨a, D, d, c, cv, b, rfl, hH, C, hd, hcv, e, q⟩ := h
  subst hd
  obtain ⟨u1, u2, rfl, r1, r2⟩ := vals2 r
  have e1 : u1 = .ref a := r1
  have e2 := hcv _ r2
  subst e1 e2
  have z : ObjOk X.prog X.w H s.heap a (KpO (.ref D) none a) := I.hok a _ hH
  obtain ⟨⟨oe, g, ⟨hz1, hz2⟩, vs, hv⟩, _⟩ := z
  have J : PySem.W.InstAt s.heap a oe D none := by
    obtain ⟨oc, od, oda, osl⟩ := oe
    dsimp only at hz1 hz2 hv
    subst hz1 hz2 hv
    exact ⟨g, rfl, rfl, trivial⟩
  exact PySem.W.kia_one (PySem.W.handS_kitx_exc C.hg C.hk C.hs C.hd C.ha C.hn C.ht C.hm) I.kIn J e (fun z => nomatch z) fun tk => ⟨.bl b, H, I.tok tk, rfl, q⟩
end L2

set_option Elab.async false
set_option linter.all false
set_option maxRecDepth 100000
namespace Ho
open PySem PySem.Spec PySem.Calls PyProof.Rows L2 LamX NdefX Ed
open Ed.Enc (enc)
/-- a kept error of the class C -/
def IsX (C : Addr) : Rp := fun G v => ∃ a, v = .ref a ∧ G a = some (KpO (.ref C) none a)
theorem isX_ex {C : Addr} : Mono (IsX C) := ⟨fun e ⟨a, h, g⟩ => ⟨a, h, e _ _ g⟩⟩
instance {C : Addr} : MonoC (IsX C) := ⟨isX_ex⟩
instance {C : Addr} : Th (IsX C) := ⟨fun {G S v} hS ⟨a, h, g⟩ => ⟨a, h, by
  rw [hide_out fun c => by
    obtain ⟨o, e, q⟩ := hS a c
    rw [g] at e
    cases e
    exact q]
  exact g⟩⟩
section
variable {T : Tbs} {K : PySem.W.Frag} {σ : L2.St} {G0 H0 F G H : Hp} {Γ Γ' : List Sl} {O : Ow} {R R' : Rp} {i j : Nat} {te : TE} {ta : TA} {D : Ends} {t : TT} {tu tw tb : TS} {ds es : List PyData} {Q : VK} {E : XK} {C S : Addr}
theorem Sat.setUn {x : Option V} (s : Sat T G0 H0 F Γ σ G H) : Sat T G0 H0 F (Γ.set i .un) (σ.set i x) G H :=
  ⟨s.nx, s.fl, s.im.setUn, fun j O h => by
    rcases get_set h with ⟨_, e, _⟩ | ⟨e1, e⟩
    · cases e
    · obtain ⟨p, o, q, z⟩ := s.ow j O e
      exact ⟨p, o, by rw [List.getElem?_set_ne e1]; exact q, z⟩, fun j k O1 O2 q hj hk ej ek => by
    rcases get_set hj with ⟨_, e, _⟩ | ⟨e1, hj⟩
    · cases e
    rcases get_set hk with ⟨_, e, _⟩ | ⟨e2, hk⟩
    · cases e
    rw [List.getElem?_set_ne e1] at ej
    rw [List.getElem?_set_ne e2] at ek
    exact s.sep j k O1 O2 q hj hk ej ek⟩
theorem ev_isNX (ha : EvR T te σ G (IsX C)) : Ev T (tOp (fun x y H Q => y = V.non ∧ Q (.bl (decide (x = V.non))) H) te (tC .non)) σ G false :=
  ev_op isX_ex isV_ex ha (ev_c (v := .non)) fun u v G1 H1 _ k rx ry Q q => by
    refine ⟨ry, q _ G1 H1 (Nx.refl k) ?_⟩
    obtain ⟨a, rfl, _⟩ := rx
    have e : decide (V.ref a = V.non) = false := decide_eq_false fun z => by cases z
    rw [e]
    exact .bl _
theorem ev_isNN : Ev T (tOp (fun x y H Q => y = V.non ∧ Q (.bl (decide (x = V.non))) H) (tC .non) (tC .non)) σ G true :=
  ev_op isV_ex isV_ex (ev_c (v := .non)) (ev_c (v := .non)) fun u v G1 H1 _ k rx ry Q q => by
    refine ⟨ry, q _ G1 H1 (Nx.refl k) ?_⟩
    have rx : u = .non := rx
    subst rx
    exact .bl _
theorem ev_isX {b : Bool} {c : V} {cv : Value} (hC : ExcC K C) (ha : EvR T te σ G (IsX C)) (hb : EvR T tb' σ G (IsV c)) (hcv : ∀ u, RelV c u → u = cv) (hk : PySem.W.kitOne K (.ref C) cv = some b) : Ev T (tCB (rIsKp K) (tCons te (tCons tb' tNil))) σ G b := fun H k Q q =>
  ha H k _ fun v G1 H1 n1 r1 => EvR.mono isV_ex hb n1.ex H1 n1.kn _ fun w G2 H2 n2 r2 => by
    obtain ⟨a, rfl, g⟩ := r1
    have r2 : w = c := r2
    subst r2
    exact ⟨a, C, none, w, cv, b, rfl, n2.kn.le _ _ (n2.ex _ _ g), hC, rfl, hcv, hk, q _ G2 H2 (n1.trans n2) (.bl b)⟩
/-- a call in a try that comes back -/
theorem ev_callS {β : Type} {pre : β → Prop} {Rs : β → List Rp} {out : β → Out} {W : L2.St → XK} (b : β) (hb : pre b) (h : EvA T ta σ G (Rs b)) (ho : out b = .val R := by rfl) : EvR T (tCallS (Sp1 T pre Rs out) W ta) σ G R := fun H k Q q =>
  h H k _ fun vs G1 H1 n1 r1 => ⟨b, hb, G1, n1.kn, r1, by
    rw [ho]
    exact fun v G2 H2 n2 r => q v G2 H2 (n1.trans n2) r⟩
theorem en_callS {β : Type} {pre : β → Prop} {Rs : β → List Rp} {out : β → Out} {W : L2.St → XK} (b : β) (hb : pre b) (h : EvA T ta σ G (Rs b)) (ho : out b = .new (OL ds) := by rfl) : EvND T (tCallS (Sp1 T pre Rs out) W ta) σ G ds := fun H k Q q =>
  h H k _ fun vs G1 H1 n1 r1 => ⟨b, hb, G1, n1.kn, r1, by
    rw [ho]
    rintro p o G2 H2 n2 p0 hG hp ⟨us, rfl, r⟩
    exact q p us G2 H2 (n1.trans n2) (n1.dom p p0) hG hp r⟩
/-- a call in a try that raises; what is caught is kept in slot j -/
theorem x_call {β : Type} {pre : β → Prop} {Rs : β → List Rp} {out : β → Out} (b : β) (hb : pre b) (s : Sat T G0 H0 F Γ σ G H) (h : ∀ {G}, SatI (Γ.map hd) σ G → EvA T ta σ G (Rs b)) (ho : out b = .exc C) (he : PySem.W.exmOne K (.ref C) (.ref S) = some true) (hi : i < Γ.length)
    (c : ∀ σ G H, Sat T G0 H0 F (((Γ.set i .un).set j (.im (IsX C))).set i .un) σ G H → D.nx σ H) :
    tCallS (Sp1 T pre Rs out) (WE (wKeep K (.ref S) i (fun _ => tAsg (tVar i) (gName j)) D)) ta σ H Q :=
  h s.hdI H s.kn _ fun vs G1 H1 n1 r1 => ⟨b, hb, G1, n1.kn, r1, by
    rw [ho]
    intro G2 H2 n2
    refine ⟨he, fun a ha => ?_⟩
    have s2 := (s.step n1).step n2
    have n3 : Nx T G2 H2 (upd G2 a (KpO (.ref C) none a)) (upd H2 a (KpO (.ref C) none a)) := Nx.new s2.kn ha fun ps z => by cases z
    have s3 := (s2.step n3).setUn (i := i) (x := some (.ref a))
    have hl : i < σ.length := by
      rw [s.im.len]
      exact hi
    refine ⟨.ref a, List.getElem?_set_self hl, ?_⟩
    refine ⟨ha, c _ _ _ (((s3.setIm (i := j) isX_ex ⟨a, rfl, upd_same⟩)).setUn (i := i) (x := none))⟩⟩
end
end Ho
namespace Ho
open PySem PySem.Spec PySem.Calls PyProof.Rows L2 LamX NdefX Ed
open Ed.Enc (enc)
/-- a def that may raise, at its name -/
structure DfX (P : Program) (w : World) (K : PySem.W.Frag) (mg : Str → Option Value) (base : Heap) (x : Str) (k : Nat) (f : Addr) (fd : FuncData) (ps : List Str) (sp : Sp) : Prop where
  ok : FnOk P w K mg base (L2.CX P w) k f fd ps sp
  g : mg x = some (.ref f)
  kp : PySem.W.keepIn K (.ref f) = true
  bd : Binds K fd ps []
/-- a class of errors of the program, raised with a text and caught as S -/
structure XcOk (K : PySem.W.Frag) (S C : Addr) : Prop where
  q : PySem.W.excIn K C [.type "ValueError", .type "Exception", .type "BaseException", .type "object"] "ValueError.__new__" = true
  kp : PySem.W.keepIn K (.ref C) = true
  b : PySem.W.subIn K (.ref C) (.type "BaseException") = some true
  t : PySem.W.typeIn K (.ref C) = some (.type "type")
  e : PySem.W.exmOne K (.ref C) (.ref S) = some true
  c : ExcC K C
/-- of which of these classes C's errors are -/
structure XkT (K : PySem.W.Frag) (C : Addr) (as_ : List Addr) (fl : List Bool) : Prop where
  c : ExcC K C
  k : ∀ (i : Nat) (a : Addr) (b : Bool), as_[i]? = some a → fl[i]? = some b → PySem.W.kitOne K (.ref C) (.ref a) = some b
  v : PySem.W.kitOne K (.ref C) (.type "ValueError") = some true
theorem XkT.mk12 {K : PySem.W.Frag} {C a0 a1 a2 a3 a4 a5 a6 a7 a8 a9 a10 a11 : Addr} {b0 b1 b2 b3 b4 b5 b6 b7 b8 b9 b10 b11 : Bool} (c : ExcC K C) (v : PySem.W.kitOne K (.ref C) (.type "ValueError") = some true) (k0 : PySem.W.kitOne K (.ref C) (.ref a0) = some b0) (k1 : PySem.W.kitOne K (.ref C) (.ref a1) = some b1) (k2 : PySem.W.kitOne K (.ref C) (.ref a2) = some b2) (k3 : PySem.W.kitOne K (.ref C) (.ref a3) = some b3) (k4 : PySem.W.kitOne K (.ref C) (.ref a4) = some b4) (k5 : PySem.W.kitOne K (.ref C) (.ref a5) = some b5) (k6 : PySem.W.kitOne K (.ref C) (.ref a6) = some b6) (k7 : PySem.W.kitOne K (.ref C) (.ref a7) = some b7) (k8 : PySem.W.kitOne K (.ref C) (.ref a8) = some b8) (k9 : PySem.W.kitOne K (.ref C) (.ref a9) = some b9) (k10 : PySem.W.kitOne K (.ref C) (.ref a10) = some b10) (k11 : PySem.W.kitOne K (.ref C) (.ref a11) = some b11) :
    XkT K C [a0, a1, a2, a3, a4, a5, a6, a7, a8, a9, a10, a11] [b0, b1, b2, b3, b4, b5, b6, b7, b8, b9, b10, b11] := ⟨c, (fun i a b h1 h2 => by
  match i with
  | 0 =>
    cases h1
    cases h2
    exact k0
  | 1 =>
    cases h1
    cases h2
    exact k1
  | 2 =>
    cases h1
    cases h2
    exact k2
  | 3 =>
    cases h1
    cases h2
    exact k3
  | 4 =>
    cases h1
    cases h2
    exact k4
  | 5 =>
    cases h1
    cases h2
    exact k5
  | 6 =>
    cases h1
    cases h2
    exact k6
  | 7 =>
    cases h1
    cases h2
    exact k7
  | 8 =>
    cases h1
    cases h2
    exact k8
  | 9 =>
    cases h1
    cases h2
    exact k9
  | 10 =>
    cases h1
    cases h2
    exact k10
  | 11 =>
    cases h1
    cases h2
    exact k11
  | i + 12 => cases h1), v⟩
theorem call_isKpK {X : Cx} {K : PySem.W.Frag} (h : X.K = K) : CallR X (.builtin "isinstance") (rIsKp K) := call_isKp h
section
variable {T : Tbs} {K : PySem.W.Frag} {σ : L2.St} {G0 H0 F G H : Hp} {Γ Γ' : List Sl} {O : Ow} {R R' : Rp} {i j : Nat} {te : TE} {ta : TA} {D : Ends} {t : TT} {tu tw tb : TS} {ds es : List PyData} {Q : VK} {E : XK} {C S : Addr}
theorem ev_wd {s : OkS} {x : Str} (h : x = s.s) : Ev T (tC (.str x)) σ G s := by
  subst h
  exact fun H k Q q => q _ G H (Nx.refl k) (.str _)
theorem da_split {G : Hp} {d : PyData} {vs : List V} (r : DqAll G vs (ds ++ [d])) : ∃ us ws, vs = us ++ ws ∧ DqAll G us ds ∧ DqAll G ws [d] := by
  refine ⟨vs.take ds.length, vs.drop ds.length, (List.take_append_drop _ _).symm, ?_, ?_⟩
  · have z := da_take ds.length r
    rw [List.take_left] at z
    exact z
  · have z := da_drop ds.length r
    rw [List.drop_left] at z
    exact z
/-- xs.pop() of an own list, what comes out let go -/
theorem st_pop {d : PyData} (s : Sat T G0 H0 F Γ σ G H) (hi : Γ[i]? = some (.ow (OL (ds ++ [d])))) (c : ∀ G H, Sat T G0 H0 F (Γ.set i (.ow (OL ds))) σ G H → D.nx σ H) :
    tDrop (tBM0 K "list" rPop (tVar i)) D σ H := by
  obtain ⟨p, vs, e, z1, z2, r⟩ := s.own hi
  obtain ⟨us, ws, rfl, r1, r2⟩ := da_split r
  cases r2 with
  | cons rv rn =>
    cases rn
    rename_i v
    refine ⟨.ref p, e, tyV_lst z2, p, us ++ [v], v, rfl, rfl, z2, ?_, ?_⟩
    · rw [List.length_append, List.getElem?_append_right (by show us.length ≤ us.length + 1 - 1; omega)]
      show [v][us.length + 1 - 1 - us.length]? = some v
      rw [show us.length + 1 - 1 - us.length = 0 by omega]
      rfl
    · rw [List.dropLast_concat]
      exact c G _ (s.mut hi e ⟨_, rfl, r1⟩)
end
end Ho

set_option Elab.async false
set_option linter.all false
set_option maxRecDepth 100000
namespace Ho
open PySem PySem.Spec PySem.Calls PyProof.Rows L2 LamX NdefX Ed
open Ed.Enc (enc)
/-- the own list at p, these values in it -/
def OF (p0 : Addr) (vs : List V) (ds : List PyData) : Ow where
  P := fun G p o => p = p0 ∧ o = .lst vs ∧ DqAll G vs ds
  R := IsD (.list ds)
  mono := fun e ⟨h0, h, r⟩ => ⟨h0, h, da_ex e r⟩
  soft := fun ⟨_, h, _⟩ => by rw [h]; trivial
  toR := fun e ⟨_, h, r⟩ => by
    subst h
    exact .lst e r
  monoR := isD_ex
section
variable {T : Tbs} {K : PySem.W.Frag} {σ : L2.St} {G0 H0 F G H : Hp} {Γ Γ' : List Sl} {O O' : Ow} {R R' : Rp} {i j : Nat} {te : TE} {ta tb' : TE} {D : Ends} {t : TT} {tu tw tb : TS} {ds es : List PyData} {Q : VK} {E : XK} {α : Type} [Enc α]
theorem upd_self {a : Addr} {o : HO} (h : H a = some o) : upd H a o = H := by
  funext b
  by_cases e : b = a
  · rw [e, upd_same, h]
  · rw [upd_ne e]
theorem Sat.reOw (s : Sat T G0 H0 F Γ σ G H) (hi : Γ[i]? = some (.ow O)) (h : ∀ p o, σ[i]? = some (some (.ref p)) → H p = some o → O.P G p o → O'.P G p o) : Sat T G0 H0 F (Γ.set i (.ow O')) σ G H := by
  obtain ⟨p, o, e, z0, z1, z2, z3⟩ := s.ow i O hi
  have z := s.mut hi e (o' := o) (h p o e z2 z3)
  rw [upd_self z2] at z
  exact z
theorem en_ifF {xs : List α} (h : EvT T t σ G false) (hb : EvN T tb' σ G xs) : EvN T (tIf t ta tb') σ G xs := fun H k Q q => h H k _ fun G2 H2 n => iteF ((hb.mono n.ex) H2 n.kn Q fun p vs G3 H3 n3 h0 hG hp r => q p vs G3 H3 (n.trans n3) (n.dom p h0) hG hp r)
/-- sources told by values -/
theorem SrcG.as {ι : Type} {RR : ι → Rp} {xs : List ι} {wi : TI} {Rs : List Rp} (h : SrcG T wi σ G (fun R => R) Rs) (e : Rs = xs.map RR) : SrcG T wi σ G RR xs := by
  subst e
  intro H k R q
  refine h H k R fun J G2 H2 n w => q J G2 H2 n ?_
  rw [List.length_map] at w
  refine w.mono (fun _ z => z) fun i H' v H'' hi hG y => ?_
  obtain ⟨x, hx, hy⟩ := y
  rw [List.getElem?_map] at hx
  obtain ⟨z, hz, rfl⟩ := Option.map_eq_some_iff.mp hx
  exact ⟨z, hz, hy⟩
/-- if t: x = e -/
theorem st_ifAsg {b : Bool} {x y : α} (s : Sat T G0 H0 F Γ σ G H) (hi : Γ[i]? = some (.im (IsE y))) (h : ∀ {G}, SatI (Γ.map fz) σ G → EvT T t σ G b) (h1 : b = true → ∀ {σ G}, SatI (Γ.map hd) σ G → EvR T te σ G (IsE x)) (c : ∀ σ G H, Sat T G0 H0 F (Γ.set i (.im (IsE (if b = true then x else y)))) σ G H → D.nx σ H) :
    tIfS t (tAsg te (gName i)) tNext D σ H := by
  refine st_if s h (fun hb G H s => ?_) fun hb G H s => ?_
  · refine st_asg s (h1 hb) fun σ G H s => c σ G H ?_
    rw [if_pos hb]
    exact s
  · refine c σ G H ?_
    rw [if_neg (by rw [hb]; exact Bool.false_ne_true)]
    refine s.cast (List.ext_getElem? fun j => ?_)
    by_cases e : i = j
    · subst e
      rw [List.getElem?_set_self (List.getElem?_eq_some_iff.mp hi).1, hi]
    · rw [List.getElem?_set_ne e]
/-- what follows a branch, told once -/
theorem st_cut {a : TS} (Γ2 : List Sl) (s : Sat T G0 H0 F Γ σ G H) (c : ∀ σ G H, Sat T G0 H0 F Γ2 σ G H → D.nx σ H) (h : (∀ σ G H, Sat T G0 H0 F Γ2 σ G H → D.nx σ H) → a D σ H) : a D σ H := h c
/-- for x in xs, xs an own list that stays as it is; O tells it within -/
theorem st_forO {xs : List α} {tg : α → List Sl → List Sl} {g : TG} (Γi : Ow → Nat → List Sl) (s : Sat T G0 H0 F Γ σ G H) (hi : Γ[i]? = some (.ow (OL (xs.map enc)))) (hg : TgS T g (fun x : α => IsE x) tg) (hat : ∀ O k, (Γi O k)[i]? = some (.ow O)) (hset : ∀ O O' k, (Γi O k).set i (.ow O') = Γi O' k)
    (h0 : Wk Γ (Γi (OL (xs.map enc)) 0))
    (hs : ∀ O k x σ G H, xs[k]? = some x → Sat T G0 H0 F (tg x (Γi O k)) σ G H → tb { D with nx := Nxt T G0 H0 F (Γi O (k + 1)), ct := Nxt T G0 H0 F (Γi O (k + 1)), bk := D.nx } σ H)
    (hd : ∀ σ G H, Sat T G0 H0 F (Γi (OL (xs.map enc)) xs.length) σ G H → D.nx σ H) : tFor (iList K (tVar i)) g tb D σ H := by
  obtain ⟨p, vs, e, z1, z2, r⟩ := s.own hi
  have hl := da_len r
  rw [List.length_map] at hl
  have s1 : Sat T G0 H0 F (Γi (OF p vs (xs.map enc)) 0) σ G H := by
    have z := (s.weak h0).reOw (O' := OF p vs (xs.map enc)) (hat _ _) fun p' o e' h' hP => by
      rw [e] at e'
      cases e'
      rw [z2] at h'
      cases h'
      exact ⟨rfl, rfl, r⟩
    rw [hset] at z
    exact z
  refine ⟨.ref p, e, p, rfl, ⟨vs, .inl (.inl z2)⟩, ?_⟩
  refine for_it (walk_list (K := K) (a := p) (xs := vs)) (fun k σ H => ∃ G, Sat T G0 H0 F (Γi (OF p vs (xs.map enc)) k) σ G H) ⟨G, s1⟩ (fun k σ' H' _ ⟨G', s'⟩ => ?_) (fun k v σ' H' H'' hk ⟨G', s'⟩ y => ?_) fun σ' H' ⟨G', s'⟩ => ?_
  · obtain ⟨p', o, _, _, _, q2, rfl, rfl, _⟩ := s'.ow i _ (hat _ _)
    exact .inl (.inl q2)
  · obtain ⟨e1, hv⟩ := y
    subst e1
    obtain ⟨p', o, _, _, _, q2, rfl, rfl, r'⟩ := s'.ow i _ (hat _ _)
    obtain ⟨d, hd', rv⟩ := da_at r' hv
    rw [List.getElem?_map] at hd'
    obtain ⟨x, hx, rfl⟩ := Option.map_eq_some_iff.mp hd'
    exact hg s' rv _ fun σ2 s2 => hs _ k x σ2 _ _ hx s2
  · rw [hl] at s'
    have z := s'.reOw (O' := OL (xs.map enc)) (hat _ _) fun p' o _ _ hP => by
      obtain ⟨_, rfl, r'⟩ := hP
      exact ⟨vs, rfl, r'⟩
    rw [hset] at z
    exact hd _ _ _ z
end
end Ho

set_option Elab.async false
set_option linter.all false
set_option maxRecDepth 100000
namespace Ho
open PySem PySem.Spec PySem.Calls PyProof.Rows L2 LamX NdefX Ed
open Ed.Enc (enc)
section
variable {T : Tbs} {K : PySem.W.Frag} {σ : L2.St} {G0 H0 F G H : Hp} {Γ Γ' : List Sl} {O O' : Ow} {R R' : Rp} {i j : Nat} {te : TE} {ta tb' : TE} {D : Ends} {t : TT} {tu tw tb : TS} {ds es : List PyData} {Q : VK} {E : XK} {α : Type} [Enc α]
/-- xs.append(ys.pop(k)), both own -/
theorem st_appPop {d : PyData} {k : Int} (s : Sat T G0 H0 F Γ σ G H) (hi : Γ[i]? = some (.ow (OL ds))) (hj : Γ[j]? = some (.ow (OL es))) (ne : i ≠ j) (hz : ds.length < 100000) (hz2 : es.length < 100000) (h : ∀ {G}, SatI (Γ.map fz) σ G → Ev T te σ G k) (h0 : 0 ≤ k) (hd : es[k.toNat]? = some d)
    (c : ∀ G H, Sat T G0 H0 F ((Γ.set j (.ow (OL (es.eraseIdx k.toNat)))).set i (.ow (OL (ds ++ [d])))) σ G H → D.nx σ H) :
    tDrop (tBM K "list" rAppend (tVar i) (tCons (tBM K "list" rPopAt (tVar j) (tCons te tNil)) tNil)) D σ H := by
  obtain ⟨p, vs, ep, y1, y2, ry⟩ := s.own hi
  obtain ⟨q, ws, eq, z1, z2, rz⟩ := s.own hj
  have npq : p ≠ q := fun z => by
    subst z
    exact ne (s.sep i j _ _ p hi hj ep eq)
  refine ⟨.ref p, ep, tyV_lst y2, .ref q, eq, tyV_lst z2, h s.fzI H s.fz_kn _ fun v G1 H1 n1 r1 => ?_⟩
  have hp1 := th_own s n1 hi ep y2
  have hq1 := th_own s n1 hj eq z2
  have s1 := s.thaw n1
  rw [dq_int r1]
  have hl := da_len rz
  have hm : k.toNat < ws.length := by
    rw [hl]
    exact (List.getElem?_eq_some_iff.mp hd).1
  have hk : seqIndex? k ws.length = some k.toNat := by
    have em : k = (k.toNat : Int) := (Int.toNat_of_nonneg h0).symm
    rw [em]
    unfold seqIndex?
    have a1 : ¬ ((k.toNat : Int) < 0) := by omega
    simp [a1, hm]
    refine ⟨⟨?_, ?_⟩, ?_⟩ <;> split <;> omega
  obtain ⟨d', hd', rd⟩ := da_at rz (List.getElem?_eq_getElem hm)
  rw [hd] at hd'
  cases hd'
  obtain ⟨q', ws', eq', z1', z2', rz'⟩ := s1.own hj
  rw [eq] at eq'
  cases eq'
  rw [hq1] at z2'
  cases z2'
  have s2 := s1.mut hj eq (O' := OL (es.eraseIdx k.toNat)) (o' := .lst (ws.eraseIdx k.toNat)) ⟨_, rfl, da_erase _ rz'⟩
  have hi2 : (Γ.set j (.ow (OL (es.eraseIdx k.toNat))))[i]? = some (.ow (OL ds)) := by
    rw [List.getElem?_set_ne fun z => ne z.symm]
    exact hi
  obtain ⟨p', vs', ep', y1', y2', ry'⟩ := s2.own hi2
  rw [ep] at ep'
  cases ep'
  have e2 : upd H1 q (.lst (ws.eraseIdx k.toNat)) p = some (.lst vs) := by
    rw [upd_ne npq]
    exact hp1
  rw [e2] at y2'
  cases y2'
  obtain ⟨d'', hd'', rd'⟩ := da_at rz' (List.getElem?_eq_getElem hm)
  rw [hd] at hd''
  cases hd''
  have lv := da_len ry
  refine ⟨q, ws, k, k.toNat, ws[k.toNat], rfl, rfl, hq1, by omega, by omega, hk, List.getElem?_eq_getElem hm, p, vs, _, rfl, rfl, e2, Nat.lt_of_lt_of_le (show vs.length < 100000 by omega) (by decide), ?_⟩
  exact c _ _ (s2.mut hi2 ep ⟨_, rfl, da_app ry' (.cons rd' .nil)⟩)
/-- return xs if t else .., xs own, t true -/
theorem st_retIfT (s : Sat T G0 H0 F Γ σ G H) (hj : Γ[j]? = some (.ow O)) (h : ∀ {G}, SatI (Γ.map fz) σ G → EvT T t σ G true) (c : Wish T G0 H0 D.rt E (.new O)) : tRet (tIf t (tVar j) tb') D σ H :=
  h s.fzI H s.fz_kn _ fun G2 H2 n => iteT (st_retOw (s.thaw n) hj c)
theorem ev_isnotB {a b : Bool} (ha : Ev T ta σ G a) (hb : Ev T tb' σ G b) : Ev T (tOp (fun x y H Q => ∃ a b, x = V.bl a ∧ y = V.bl b ∧ Q (.bl (!decide (a = b))) H) ta tb') σ G (!decide (a = b)) :=
  ev_op isD_ex isD_ex ha hb fun u v G1 H1 _ k rx ry Q q => by
    rw [dq_bool rx, dq_bool ry]
    exact ⟨a, b, rfl, rfl, q _ G1 H1 (Nx.refl k) (.bl _)⟩
end
end Ho

set_option Elab.async false
set_option linter.all false
set_option maxRecDepth 100000
namespace Ho
open PySem PySem.Spec PySem.Calls PyProof.Rows L2 LamX NdefX Ed
open Ed.Enc (enc)
/-- texts one behind the other -/
def tls (ys : List Str) : List PyData := ys.map PyData.str
theorem tls_no (ys : List Str) : noLists (tls ys) = true := by
  unfold tls
  induction ys with
  | nil => rfl
  | cons y ys ih =>
    show (noList (.str y) && noLists (ys.map PyData.str)) = true
    rw [ih]
    rfl
theorem da_strs {G : Hp} : ∀ {ys : List Str} {vs : List V}, DqAll G vs (tls ys) → vs = ys.map V.str
  | [], _, .nil => rfl
  | y :: ys, _, .cons r1 r2 => by
    cases r1
    rw [da_strs r2]
    rfl
theorem strs_da {G : Hp} : ∀ ys : List Str, DqAll G (ys.map V.str) (tls ys)
  | [] => .nil
  | y :: ys => .cons (.str y) (strs_da ys)
/-- how long the texts are together -/
def tlen (ys : List Str) : Nat := (ys.map fun x => x.length).sum
section
variable {T : Tbs} {K : PySem.W.Frag} {σ : L2.St} {G0 H0 F G H : Hp} {Γ Γ' : List Sl} {te ta tb : TE} {ds es : List PyData} {x y : Str} {ys : List Str}
abbrev rStrI : List V → Hp → VK → Prop := fun xs H Q => ∃ i, xs = [V.int i] ∧ i.natAbs.log2 < 1920 ∧ Q (.str (Str.ofString (toString i))) H
abbrev rJoinK (K : PySem.W.Frag) : V → List V → Hp → VK → Prop := fun x xs H Q => ∃ a p, ∃ ys : List Str, x = .str a ∧ xs = [.ref p] ∧ (SqL K H p (ys.map V.str) ∨ SqT K H p (ys.map V.str)) ∧ (ys.map (·.length)).sum + ys.length * a.length ≤ 16777216 ∧ Q (.str (Txt.join a ys)) H
abbrev rSplitS : V → List V → Hp → VK → Prop := fun x xs H Q => ∃ a b, x = .str a ∧ xs = [.str b] ∧ (b.length == 0) = false ∧ a.length + 2 ≤ sizeLine ∧ rNewStrs (Txt.split a b) H Q
theorem mt_joinK {X : Cx} {K : PySem.W.Frag} (h : X.K = K) : MtM X "str.join" (rJoinK K) := h ▸ mt_join
theorem ev_strI {i : Int} (ha : Ev T ta σ G i) (hz : i.natAbs.log2 < 1920) : EvR T (tCB rStrI (tCons ta tNil)) σ G (IsT' (Str.ofString (toString i))) := fun H k Q q =>
  ha H k _ fun v G1 H1 n1 r1 => by
    rw [dq_int r1]
    exact ⟨i, rfl, hz, q _ G1 H1 n1 (.str _)⟩
theorem ev_joinS (hb : EvR T tb σ G (IsD (.list (tls ys)))) (hz : tlen ys + ys.length * x.length ≤ 16777216) : EvR T (tBM K "str" (rJoinK K) (tC (.str x)) (tCons tb tNil)) σ G (IsT' (Txt.join x ys)) := fun H k Q q => by
  show tyV K "str" (.str x) H ∧ _
  refine ⟨rfl, hb H k _ fun v G1 H1 n1 r1 => ?_⟩
  have r1 : Dq G1 v (.list (tls ys)) := r1
  cases r1 with
  | @lst a vs _ h1 h2 =>
    have e := da_strs h2
    subst e
    exact ⟨x, a, ys, rfl, rfl, .inl (.inl (.inl (n1.kn.le _ _ h1))), hz, q _ G1 H1 n1 (.str _)⟩
theorem en_split (ha : EvR T ta σ G (IsT' x)) (hy : (y.length == 0) = false) (hz : x.length + 2 ≤ 16777216) : EvND T (tBM K "str" rSplitS ta (tCons (tC (.str y)) tNil)) σ G (tls (Txt.split x y)) := fun H k Q q =>
  ha H k _ fun v G1 H1 n1 r1 => by
    rw [dq_str r1]
    refine ⟨rfl, x, y, rfl, rfl, hy, by rw [sizeLine_eq]; exact hz, fun p hp => ?_⟩
    exact q p _ G1 _ (n1.trans (Nx.fresh n1.kn hp)) (n1.dom p hp) (n1.kn.none hp) upd_same (strs_da _)
theorem ev_addS (ha : EvR T ta σ G (IsT' x)) (hb : EvR T tb σ G (IsT' y)) (hz : x.length + y.length ≤ 16777216) : EvR T (tOp (fun x y H Q => ∃ i j, x = V.str i ∧ y = V.str j ∧ i.length + j.length ≤ sizeLine ∧ Q (.str (i ++ j)) H) ta tb) σ G (IsT' (x ++ y)) :=
  ev_op isD_ex isD_ex ha hb fun u v G1 H1 _ k rx ry Q q => by
    rw [dq_str rx, dq_str ry]
    exact ⟨x, y, rfl, rfl, by rw [sizeLine_eq]; exact hz, q _ G1 H1 (Nx.refl k) (.str _)⟩
theorem ev_lenS (ha : EvR T ta σ G (IsT' x)) (hz : x.length ≤ 16777216) : Ev T (tCB (fun xs H Q => ∃ z, xs = [V.str z] ∧ z.length ≤ sizeLine ∧ Q (.int z.length) H) (tCons ta tNil)) σ G (x.length : Int) := fun H k Q q =>
  ha H k _ fun v G1 H1 n1 r1 => by
    rw [dq_str r1]
    exact ⟨x, rfl, by rw [sizeLine_eq]; exact hz, q _ G1 H1 n1 (.int _)⟩
theorem ev_slS {tl th : TO} {lo hi : Option Int} (ha : EvR T ta σ G (IsT' x)) (h1 : EvO T tl σ G lo) (h2 : EvO T th σ G hi) (hz : x.length ≤ 16777216) : EvR T (tSl rSlS ta tl th) σ G (IsT' (cutS x lo hi)) := fun H k Q q =>
  ha H k _ fun v G1 H1 n1 r1 => h1.mono n1.ex H1 n1.kn _ fun G2 H2 n2 => h2.mono (n1.ex.trans n2.ex) H2 n2.kn _ fun G3 H3 n3 => by
    rw [dq_str r1]
    exact ⟨x, rfl, by rw [sizeLine_eq]; exact hz, q _ G3 H3 ((n1.trans n2).trans n3) (.str _)⟩
/-- a list of texts made by a comprehension -/
theorem en_lcT {ι : Type} {RR : ι → Rp} {tg : ι → List Sl → List Sl} {xs : List ι} {wi : TI} {g : TG} {vs : List Nat} (s : SatI Γ σ G) (f : ι → Str) (h : SrcG T wi σ G RR xs) (hg : TgC T g vs RR tg) (hz : xs.length ≤ 50000)
    (he : ∀ x ∈ xs, ∀ {σ G}, SatI (tg x (wipeG Γ vs)) σ G → EvR T te σ G (IsT' (f x))) : EvND T (tLc wi g tYes te vs) σ G (tls (xs.map f)) :=
  EvND.to (en_lcG s (fun _ => true) (fun x => .str (f x)) h hg hz (fun _ _ {_ _} _ => et_yes) fun x hx _ {_ _} s => he x hx s) (by
    rw [List.filter_eq_self.mpr fun _ _ => rfl]
    unfold tls
    rw [List.map_map]
    rfl)
end
end Ho

set_option Elab.async false
set_option linter.all false
set_option maxRecDepth 100000
namespace Ho
open PySem PySem.Spec PySem.Calls PyProof.Rows L2 LamX NdefX Ed
open Ed.Enc (enc)
def dkv (ks : List (Str × Int)) : List (Key × V) := ks.map fun p => (Sum.inr p.1, V.int p.2)
def look (ks : List (Str × Int)) (s : Str) : Option Int := (ks.find? fun p => decide (p.1 = s)).map (·.2)
theorem val_look : ∀ (ks : List (Str × Int)) (s : Str), valV (dkv ks) (Sum.inr s) = (look ks s).map V.int
  | [], s => rfl
  | p :: ks, s => by
    have ih := val_look ks s
    unfold dkv look at *
    rw [List.map_cons, List.find?_cons]
    by_cases e : p.1 = s
    · rw [valV_pos (by show Sum.inr p.1 = Sum.inr s; rw [e]), decide_eq_true e]
      rfl
    · rw [valV_neg (fun z => e (Sum.inr.inj z)), ih, decide_eq_false e]
theorem put_new {ks : List (Str × Int)} {s : Str} {i : Int} (h : s ∉ ks.map (·.1)) : putK (dkv ks) (Sum.inr s) (V.int i) = dkv (ks ++ [(s, i)]) := by
  unfold putK
  rw [if_neg]
  · unfold dkv
    rw [List.map_append]
    rfl
  · intro c
    obtain ⟨kv, h1, h2⟩ := List.any_eq_true.mp c
    unfold dkv at h1
    obtain ⟨p, hp, rfl⟩ := List.mem_map.mp h1
    have e := Sum.inr.inj (of_decide_eq_true h2)
    exact h (List.mem_map.mpr ⟨p, hp, e⟩)
def IsDk (ks : List (Str × Int)) : Rp := fun G v => ∃ a, v = .ref a ∧ G a = some (.dK (dkv ks))
theorem isDk_ex {ks : List (Str × Int)} : Mono (IsDk ks) := ⟨fun e ⟨a, h, g⟩ => ⟨a, h, e _ _ g⟩⟩
instance {ks : List (Str × Int)} : MonoC (IsDk ks) := ⟨isDk_ex⟩
def OD (ks : List (Str × Int)) : Ow where
  P := fun _ _ o => o = .dK (dkv ks)
  R := IsDk ks
  mono := fun _ h => h
  soft := fun h => by
    rw [h]
    trivial
  toR := fun e h => by
    subst h
    exact ⟨_, rfl, e⟩
  monoR := isDk_ex
theorem nt_dK {kvs : List (Key × V)} : ∀ ps, HO.dK kvs ≠ .tbl ps := fun _ z => by cases z
theorem nu_dK {kvs : List (Key × V)} : ∀ xs, HO.dK kvs ≠ .tup xs := fun _ z => by cases z
section
variable {T : Tbs} {K : PySem.W.Frag} {σ : L2.St} {G0 H0 F G H : Hp} {Γ Γ' : List Sl} {te ta tb tk tv : TE} {wi : TI} {g : TG} {vs : List Nat} {ds es : List PyData} {x y : Str} {ys : List Str}
theorem en_dcS {ι : Type} {RR : ι → Rp} {tg : ι → List Sl → List Sl} {xs : List ι} (s : SatI Γ σ G) (f : ι → Str) (h : ι → Int) (src : SrcG T wi σ G RR xs) (hg : TgC T g vs RR tg) (hz : xs.length ≤ 50000) (nd : (xs.map f).Nodup)
    (hk : ∀ x ∈ xs, ∀ {σ G}, SatI (tg x (wipeG Γ vs)) σ G → EvR T tk σ G (IsT' (f x))) (hv : ∀ x ∈ xs, ∀ {σ G}, SatI (tg x (wipeG Γ vs)) σ G → Ev T tv σ G (h x)) :
    EvO' T (tDc wi g tYes tk tv vs) σ G (OD (xs.map fun x => (f x, h x))) := fun H k Q q => src H k _ fun J G1 H1 n1 wk Dl hD => by
  have h0 := n1.dom Dl hD
  refine ⟨fun i m H' => m = xs.length - i ∧ i ≤ xs.length ∧ ∃ G', Nx T G H G' H' ∧ Ex G1 G' ∧ G' Dl = none ∧ H' Dl = some (.dK (dkv ((xs.take i).map fun x => (f x, h x)))), ⟨xs.length, by simp, Nat.zero_le _, G1, n1.trans (Nx.fresh n1.kn hD), Ex.refl G1, n1.kn.none hD, upd_same⟩, ?_⟩
  rintro i m H' ⟨rfl, hi, G', n, e1, hG, hp⟩
  rcases Nat.lt_or_ge i xs.length with hlt | hge
  rotate_left
  · have ei : i = xs.length := by omega
    subst ei
    rw [List.take_length] at hp
    exact .inl ⟨wk.stops H' ⟨G', e1, n.kn.le⟩, q Dl _ G' H' n h0 hG hp rfl⟩
  refine .inr ⟨wk.goes i H' hlt ⟨G', e1, n.kn.le⟩, fun H' => ∃ G', Nx T G H G' H' ∧ Ex G1 G' ∧ G' Dl = none ∧ H' Dl = some (.dK (dkv ((xs.take (i + 1)).map fun x => (f x, h x)))), fun H' p => ⟨xs.length - (i + 1), by omega, rfl, hlt, p⟩, fun v H'' hy => ?_⟩
  obtain ⟨x, hx, hy⟩ := wk.yields i H' v H'' hlt ⟨G', e1, n.kn.le⟩ hy
  obtain ⟨G2, n2, r2⟩ := hy G' e1 n.kn
  have hxm : x ∈ xs := List.mem_of_getElem? hx
  have nn := n.trans n2
  obtain ⟨hG2, hp2⟩ := stays n2 hG hp nt_dK nu_dK
  refine hg ((s.ex nn.ex).wipe vs) n2.kn r2 _ fun σ2 s2 hw => ⟨by rw [hw, wipe_twice], ?_⟩
  dsimp only [tYes]
  rw [if_pos rfl]
  refine hk x hxm s2 H'' n2.kn _ fun u G3 H3 n3 r3 => ?_
  obtain ⟨hG3, hp3⟩ := stays n3 hG2 hp2 nt_dK nu_dK
  refine hv x hxm (s2.ex n3.ex) H3 n3.kn _ fun z G4 H4 n4 r4 => ?_
  obtain ⟨hG4, hp4⟩ := stays n4 hG3 hp3 nt_dK nu_dK
  rw [dq_int r4]
  have fresh : f x ∉ ((xs.take i).map fun x => (f x, h x)).map (·.1) := by
    rw [List.map_map]
    intro c
    obtain ⟨y, hy1, hy2⟩ := List.mem_map.mp c
    have hy2 : f y = f x := hy2
    obtain ⟨j, hj⟩ := List.getElem?_of_mem hy1
    have hji : j < i := by
      have := (List.getElem?_eq_some_iff.mp hj).1
      rw [List.length_take] at this
      omega
    rw [List.getElem?_take_of_lt hji] at hj
    have a1 : (xs.map f)[j]? = some (f x) := by
      rw [List.getElem?_map, hj, ← hy2]
      rfl
    have a2 : (xs.map f)[i]? = some (f x) := by
      rw [List.getElem?_map, hx]
      rfl
    have := (List.getElem?_inj (List.getElem?_eq_some_iff.mp a1).1 nd).mp (a1.trans a2.symm)
    omega
  refine ⟨_, Sum.inr (f x), dq_str r3, hp4, ?_, G4, ((nn.trans n3).trans n4).mut h0 hG4 hp4 True.intro, ((e1.trans n2.ex).trans n3.ex).trans n4.ex, hG4, ?_⟩
  · unfold dkv
    rw [List.length_map, List.length_map, List.length_take]
    exact Nat.lt_of_lt_of_le (show _ < 100000 by omega) (by decide)
  · rw [put_new fresh, upd_same, take_stepE hx, List.map_append]
    rfl
theorem ev_dinS {ks : List (Str × Int)} (ha : EvR T ta σ G (IsT' x)) (hb : EvR T tb σ G (IsDk ks)) : Ev T (tDIn ta tb) σ G (look ks x).isSome := fun H k Q q =>
  ha H k _ fun u G1 H1 n1 r1 => EvR.mono isDk_ex hb n1.ex H1 n1.kn _ fun v G2 H2 n2 r2 => by
    rw [dq_str r1]
    obtain ⟨a, rfl, g⟩ := r2
    refine ⟨a, _, rfl, DGet.k (k := Sum.inr x) (n2.kn.le _ _ g), ?_⟩
    rw [val_look]
    have e : ((look ks x).map V.int).isSome = (look ks x).isSome := by cases look ks x <;> rfl
    rw [e]
    exact q _ G2 H2 (n1.trans n2) (.bl _)
theorem ev_dgetS {ks : List (Str × Int)} {i : Int} (hb : EvR T tb σ G (IsDk ks)) (ha : EvR T ta σ G (IsT' x)) (h : look ks x = some i) : Ev T (tDGet tb ta) σ G i := fun H k Q q =>
  hb H k _ fun v G1 H1 n1 r1 => EvR.mono isD_ex ha n1.ex H1 n1.kn _ fun u G2 H2 n2 r2 => by
    rw [dq_str r2]
    obtain ⟨a, rfl, g⟩ := r1
    have z : DGet H2 a (V.str x) (valV (dkv ks) (Sum.inr x)) := DGet.k (k := Sum.inr x) (n2.kn.le _ _ (n2.ex _ _ g))
    rw [val_look, h] at z
    exact ⟨a, _, rfl, z, q _ G2 H2 (n1.trans n2) (.int i)⟩
/-- a list of texts, walked -/
theorem src_T {tl : TE} (h : EvR T tl σ G (IsD (.list (tls ys)))) : SrcG T (iList K tl) σ G (fun x : Str => IsT' x) ys := fun H k R q => h H k _ fun v G1 H1 n1 r1 => by
  have r1 : Dq G1 v (.list (tls ys)) := r1
  cases r1 with
  | @lst a vs _ h1 h2 =>
    have ev := da_strs h2
    subst ev
    have sq : ∀ H', (∃ G', Ex G1 G' ∧ Ex G' H') → SqL K H' a (ys.map V.str) := fun H' ⟨G', e1, e2⟩ => .inl (.inl (e2 _ _ (e1 _ _ h1)))
    refine ⟨a, rfl, ⟨_, .inl (.inl (n1.kn.le _ _ h1))⟩, q _ G1 H1 n1 ?_⟩
    have hl : (ys.map V.str).length = ys.length := List.length_map _
    rw [← hl]
    refine (walk_list (K := K) (a := a) (xs := ys.map V.str)).mono sq fun i H' v H'' hi hG y => ?_
    obtain ⟨e, hv⟩ := y
    subst e
    rw [List.getElem?_map] at hv
    obtain ⟨x, hx, rfl⟩ := Option.map_eq_some_iff.mp hv
    exact ⟨x, hx, fun G' e1 k' => ⟨G', Nx.refl k', .str x⟩⟩
theorem tgc_nameT {j : Nat} (hj : j ∈ vs := by decide) : TgC T (gName j) vs (fun x : Str => IsT' x) (fun x Γ => Γ.set j (.im (IsT' x))) := tgc_name hj
end
end Ho

set_option linter.all false
namespace Sw
theorem slM_len (a b : Int) : (slM a b).length = (a - b).toNat := by
  unfold slM
  rw [List.length_map, List.length_reverse, len_rngI]
theorem comb_len (lo : List Int) : ∀ k : Nat, Low lo k → ((comb lo k).length : Int) ≤ 12 * (k : Int) ∨ 12 ≤ k
  | 0, _ => .inl (by show ((0 : Nat) : Int) ≤ _; omega)
  | k + 1, h => by
    by_cases c : 12 ≤ k + 1
    · exact .inr c
    rcases comb_len lo k fun t h1 h2 => h t h1 (by omega) with z | z
    · have := h ((k : Int) + 1) (by omega) (by omega)
      refine .inl ?_
      rw [comb_succ, List.length_append, run_len]
      omega
    · omega
theorem ci_len (lo : List Int) : ∀ (t : Nat) (p : Int), Low lo t → p ≤ (t : Int) → (((ci lo t p ((comb lo t).length : Int)).1.length : Nat) : Int) ≤ ((comb lo t).length : Int) + 1
  | 0, p, _, _ => by
    show ((0 : Nat) : Int) ≤ _
    omega
  | t + 1, p, hL, hp => by
    have hb := hL ((t : Int) + 1) (by omega) (by omega)
    have hLt : Low lo t := fun u h1 h2 => hL u h1 (by omega)
    have clen : ((comb lo (t + 1)).length : Int) - ((t : Int) + 1 + 1 - ga lo ((t : Int) + 1)) = ((comb lo t).length : Int) := by
      rw [comb_succ, List.length_append, run_len]
      omega
    unfold ci
    rw [clen]
    split
    · show ((0 : Nat) : Int) ≤ _
      omega
    split
    · show ((1 : Nat) : Int) ≤ _
      omega
    split
    · have ih := ci_len lo t p hLt (by omega)
      show (((slM _ _ ++ _).length : Nat) : Int) ≤ _
      rw [List.length_append, slM_len]
      omega
    · have ih := ci_len lo t (p - 1) hLt (by omega)
      show (((slM _ _ ++ _ ++ slM _ _ ++ _).length : Nat) : Int) ≤ _
      rw [List.length_append, List.length_append, List.length_append, slM_len, slM_len]
      show ((_ + 1 + _ + _ : Nat) : Int) ≤ _
      omega
theorem ga_set_ne {lo : List Int} {k : Nat} {v u : Int} (u0 : 0 ≤ u) (h : u ≠ (k : Int)) : ga (lo.set k v) u = ga lo u := by
  unfold ga
  rw [List.getElem?_set_ne (by omega)]
theorem ci_zero (lo : List Int) : ∀ (t : Nat) (p a : Int), ga (ci lo t p a).2 0 = ga lo 0
  | 0, _, _ => rfl
  | t + 1, p, a => by
    unfold ci
    split
    · exact ga_set_ne (by omega) (by omega)
    split
    · exact ga_set_ne (by omega) (by omega)
    split
    · exact ci_zero lo t p _
    · exact ci_zero lo t (p - 1) _
theorem cmb_snoc {m : Nat} {p : Int} : ∀ (ps lo : List Int), cmb lo m (ps ++ [p]) = ((cmb lo m ps).1 ++ (ci (cmb lo m ps).2 m p ((comb (cmb lo m ps).2 m).length : Int)).1, (ci (cmb lo m ps).2 m p ((comb (cmb lo m ps).2 m).length : Int)).2)
  | [], lo => by
    show ((ci lo m p _).1 ++ [], _) = ([] ++ (ci lo m p _).1, _)
    rw [List.append_nil, List.nil_append]
    rfl
  | q :: ps, lo => by
    rw [List.cons_append]
    show ((ci lo m q _).1 ++ (cmb _ m (ps ++ [p])).1, (cmb _ m (ps ++ [p])).2) = _
    rw [cmb_snoc ps]
    show _ = ((ci lo m q _).1 ++ (cmb _ m ps).1 ++ _, _)
    rw [List.append_assoc]
    rfl
theorem cmb_zero {m : Nat} : ∀ (ps lo : List Int), ga (cmb lo m ps).2 0 = ga lo 0
  | [], _ => rfl
  | q :: ps, lo => by
    show ga (cmb (ci lo m q _).2 m ps).2 0 = _
    rw [cmb_zero ps, ci_zero]
theorem sum_range_comb (lo : List Int) (h0 : ga lo 0 = 1) : ∀ k : Nat, Low lo k → ((List.range (k + 1)).map fun (i : Nat) => (i : Int) + 1 - ga lo (i : Int)).sum = ((comb lo k).length : Int)
  | 0, _ => by
    show ((0 : Nat) : Int) + 1 - ga lo ((0 : Nat) : Int) + 0 = ((0 : Nat) : Int)
    have e : ga lo ((0 : Nat) : Int) = 1 := h0
    omega
  | k + 1, h => by
    rw [List.range_succ, List.map_append, List.sum_append, sum_range_comb lo h0 k fun t h1 h2 => h t h1 (by omega), comb_succ, List.length_append, run_len]
    have := h ((k : Int) + 1) (by omega) (by omega)
    have ek : (((k + 1 : Nat)) : Int) = (k : Int) + 1 := by omega
    show _ + ((((k + 1 : Nat)) : Int) + 1 - ga lo (((k + 1 : Nat)) : Int) + 0) = _
    rw [ek]
    omega
/-- the numbers of the drops -/
def drops (ms : List Mv) : List Int := (((List.range ms.length).zip ms).filter fun x => decide (x.2.1 = Kd.drop)).map fun x => (x.1 : Int)
def lmax : List Int → Int
  | [] => -1
  | x :: xs => if lmax xs < x then x else if xs = [] then x else lmax xs
theorem lmax_ok : ∀ {xs : List Int}, xs ≠ [] → lmax xs ∈ xs ∧ ∀ y ∈ xs, y ≤ lmax xs
  | [], h => absurd rfl h
  | x :: xs, _ => by
    by_cases c : xs = []
    · subst c
      have e : lmax [x] = x := by
        unfold lmax
        split
        · rfl
        · rw [if_pos rfl]
      rw [e]
      exact ⟨List.mem_cons_self, fun y hy => by cases List.mem_singleton.mp hy; exact Int.le_refl _⟩
    · obtain ⟨a, b⟩ := lmax_ok c
      unfold lmax
      split
      · rename_i h
        refine ⟨List.mem_cons_self, fun y hy => ?_⟩
        rcases List.mem_cons.mp hy with z | z
        · omega
        · have := b y z
          omega
      · rename_i h
        try rw [if_neg c]
        refine ⟨List.mem_cons_of_mem _ a, fun y hy => ?_⟩
        rcases List.mem_cons.mp hy with z | z
        · omega
        · exact b y z
theorem lmax_nil : lmax [] = -1 := rfl
theorem mem_drops {ms : List Mv} {i : Int} : i ∈ drops ms ↔ ∃ (k : Nat) (m : Mv), i = (k : Int) ∧ ms[k]? = some m ∧ m.1 = Kd.drop := by
  unfold drops
  rw [List.mem_map]
  constructor
  · rintro ⟨⟨k, m⟩, h, rfl⟩
    obtain ⟨h1, h2⟩ := List.mem_filter.mp h
    obtain ⟨j, hj⟩ := List.getElem?_of_mem h1
    obtain ⟨a, b⟩ := List.getElem?_zip_eq_some.mp hj
    have hjl := (List.getElem?_eq_some_iff.mp b).1
    rw [List.getElem?_range hjl] at a
    have e : j = k := Option.some.inj a
    subst e
    exact ⟨j, m, rfl, b, of_decide_eq_true h2⟩
  · rintro ⟨k, m, rfl, h, hm⟩
    have hk := (List.getElem?_eq_some_iff.mp h).1
    refine ⟨(k, m), List.mem_filter.mpr ⟨List.mem_of_getElem? (i := k) (List.getElem?_zip_eq_some.mpr ⟨List.getElem?_range hk, h⟩), decide_eq_true hm⟩, rfl⟩
def cut (ms : List Mv) : List Mv := ms.take (lmax (drops ms) + 1).toNat
theorem lmax_ge (ms : List Mv) : -1 ≤ lmax (drops ms) := by
  by_cases c : drops ms = []
  · rw [c, lmax_nil]
    decide
  · obtain ⟨k, _, e, _⟩ := mem_drops.mp (lmax_ok c).1
    omega
theorem rest_nodrop (ms : List Mv) : ∀ m ∈ ms.drop (lmax (drops ms) + 1).toNat, m.1 ≠ Kd.drop := by
  intro m hm e
  obtain ⟨j, hj⟩ := List.getElem?_of_mem hm
  rw [List.getElem?_drop] at hj
  have h := mem_drops.mpr ⟨_, m, rfl, hj, e⟩
  have c : drops ms ≠ [] := fun z => by
    rw [z] at h
    cases h
  have := (lmax_ok c).2 _ h
  have := lmax_ge ms
  omega
/-- the word behind the told moves -/
theorem cut_ok {n : Nat} {ps : List Int} (h1 : 1 ≤ n) (hp : Ok n ps) : ∃ w, gon ps (cut (cms n ps)) = some w ∧ Ok n w ∧ wkd (rng n) w = wkd (rng n) ps ∧ w.length = (tp (wkd (rng n) ps)).length := by
  obtain ⟨a, _, _, d⟩ := cms_ok h1 hp
  obtain ⟨w, e1, e2⟩ := gon_take a (lmax (drops (cms n ps)) + 1).toNat
  obtain ⟨r1, r2⟩ := gon_row e1 (rng_row (n := n)) hp
  refine ⟨w, e1, r2, r1, ?_⟩
  rw [← d]
  exact ((gon_len e2).2.1 (rest_nodrop _)).symm
theorem cut_short {n : Nat} {ps : List Int} (h1 : 1 ≤ n) (hp : Ok n ps) (hs : ps.length = (tp (wkd (rng n) ps)).length) : ∀ m ∈ cut (cms n ps), m.1 ≠ Kd.drop := by
  obtain ⟨w, a, _, _, d⟩ := cut_ok h1 hp
  exact (gon_len a).2.2 (d.trans hs.symm)
theorem gon_step {w : List Int} {ms : List Mv} {i : Nat} {m : Mv} (h : ms[i]? = some m) : gon w (ms.take (i + 1)) = (gon w (ms.take i)).bind fun w' => aft w' m := by
  have e : ms.take (i + 1) = ms.take i ++ [m] := by
    rw [List.take_add_one, h] <;> rfl
  rw [e, gon_snoc]
end Sw

set_option linter.all false
namespace Sw
theorem cmb_low {m : Nat} : ∀ {ps : List Int} {lo : List Int}, Low lo m → m < lo.length → (∀ p ∈ ps, 1 ≤ p ∧ p ≤ (m : Int)) → Low (cmb lo m ps).2 m ∧ (cmb lo m ps).2.length = lo.length := fun h1 h2 h3 => (cmb_ok h1 h2 h3).2
theorem cmb_len {m : Nat} (hm : m ≤ 11) : ∀ {ps : List Int} {lo : List Int}, Low lo m → m < lo.length → (∀ p ∈ ps, 1 ≤ p ∧ p ≤ (m : Int)) → (cmb lo m ps).1.length ≤ 133 * ps.length
  | [], lo, _, _, _ => by
    show 0 ≤ _
    omega
  | p :: ps, lo, hL, hl, h => by
    obtain ⟨p1, p2⟩ := h p List.mem_cons_self
    have c := ci_ok lo m p ps hL hl p1 p2
    have i := cmb_len hm (ps := ps) c.low (by rw [c.len]; exact hl) fun q hq => h q (List.mem_cons_of_mem _ hq)
    have a := ci_len lo m p hL p2
    have b := (comb_len lo m hL).resolve_right (by omega)
    unfold cmb
    rw [List.length_append, List.length_cons]
    omega
theorem cms_len {n : Nat} {ps : List Int} (h1 : 1 ≤ n) (h2 : n ≤ 12) (hp : Ok n ps) : (cms n ps).length ≤ 133 * ps.length := by
  have hl : (rng n).length = n := by
    rw [len_rngI]
    omega
  exact cmb_len (by omega) (low_rng (n := n) (by omega)) (by omega) fun p h => by
    have := hp p h
    omega
theorem cut_le (ms : List Mv) : (cut ms).length ≤ ms.length := by
  unfold cut
  rw [List.length_take]
  omega
/-- the state behind the first letters -/
theorem cmb_at {n i : Nat} {ps : List Int} {p : Int} (h1 : 1 ≤ n) (h2 : n ≤ 12) (hp : Ok n ps) (hx : ps[i]? = some p) :
    Low (cmb (rng n) (n - 1) (ps.take i)).2 (n - 1) ∧ (cmb (rng n) (n - 1) (ps.take i)).2.length = n ∧ ga (cmb (rng n) (n - 1) (ps.take i)).2 0 = 1 ∧ (cmb (rng n) (n - 1) (ps.take i)).1.length ≤ 133 * i := by
  have hl : (rng n).length = n := by
    rw [len_rngI]
    omega
  have hq : ∀ q ∈ ps.take i, 1 ≤ q ∧ q ≤ ((n - 1 : Nat) : Int) := fun q h => by
    have := hp q (List.mem_of_mem_take h)
    omega
  obtain ⟨a, b⟩ := cmb_low (m := n - 1) (low_rng (n := n) (by omega)) (by omega) hq
  have c := cmb_len (m := n - 1) (by omega) (low_rng (n := n) (by omega)) (by omega) hq
  rw [List.length_take] at c
  refine ⟨a, b.trans hl, ?_, by omega⟩
  rw [cmb_zero, ga_rng (by omega) (by omega)]
  rfl
theorem cmb_next {n i : Nat} {ps : List Int} {p : Int} (hx : ps[i]? = some p) :
    cmb (rng n) (n - 1) (ps.take (i + 1)) = ((cmb (rng n) (n - 1) (ps.take i)).1 ++ (ci (cmb (rng n) (n - 1) (ps.take i)).2 (n - 1) p ((comb (cmb (rng n) (n - 1) (ps.take i)).2 (n - 1)).length : Int)).1, (ci (cmb (rng n) (n - 1) (ps.take i)).2 (n - 1) p ((comb (cmb (rng n) (n - 1) (ps.take i)).2 (n - 1)).length : Int)).2) := by
  rw [List.take_add_one, hx]
  exact cmb_snoc _ _
theorem two_of {w : List Int} {a : Int} (h0 : 0 ≤ a) (h : a + 2 ≤ (w.length : Int)) : (w.drop a.toNat).take 2 = [ga w a, ga w (a + 1)] := by
  have e1 := ga_at (r := w) (i := a) h0 (by omega)
  have e2 := ga_at (r := w) (i := a + 1) (by omega) (by omega)
  have e3 : (a + 1).toNat = a.toNat + 1 := by omega
  rw [e3] at e2
  refine List.ext_getElem? fun k => ?_
  match k with
  | 0 =>
    rw [List.getElem?_take_of_lt (by omega), List.getElem?_drop]
    exact e1
  | 1 =>
    rw [List.getElem?_take_of_lt (by omega), List.getElem?_drop]
    exact e2
  | k + 2 =>
    rw [List.getElem?_eq_none (by rw [List.length_take]; omega)]
    rfl
theorem three_of {w : List Int} {a : Int} (h0 : 0 ≤ a) (h : a + 3 ≤ (w.length : Int)) : (w.drop a.toNat).take 3 = [ga w a, ga w (a + 1), ga w (a + 2)] := by
  have e1 := ga_at (r := w) (i := a) h0 (by omega)
  have e2 := ga_at (r := w) (i := a + 1) (by omega) (by omega)
  have e3 : (a + 1).toNat = a.toNat + 1 := by omega
  have e4 := ga_at (r := w) (i := a + 2) (by omega) (by omega)
  have e5 : (a + 2).toNat = a.toNat + 2 := by omega
  rw [e3] at e2
  rw [e5] at e4
  refine List.ext_getElem? fun k => ?_
  match k with
  | 0 =>
    rw [List.getElem?_take_of_lt (by omega), List.getElem?_drop]
    exact e1
  | 1 =>
    rw [List.getElem?_take_of_lt (by omega), List.getElem?_drop]
    exact e2
  | 2 =>
    rw [List.getElem?_take_of_lt (by omega), List.getElem?_drop]
    exact e4
  | k + 3 =>
    rw [List.getElem?_eq_none (by rw [List.length_take]; omega)]
    rfl
end Sw

set_option linter.all false
namespace Sw
/-- what is behind a common beginning -/
def strip {α : Type} [DecidableEq α] : List α → List α → List α × List α
  | a :: as, b :: bs => if a = b then strip as bs else (a :: as, b :: bs)
  | [], bs => ([], bs)
  | a :: as, [] => (a :: as, [])
theorem strip_eq {α : Type} [DecidableEq α] : ∀ (as bs : List α), ∃ S, as = S ++ (strip as bs).1 ∧ bs = S ++ (strip as bs).2
  | [], bs => ⟨[], rfl, rfl⟩
  | a :: as, [] => ⟨[], rfl, rfl⟩
  | a :: as, b :: bs => by
    unfold strip
    by_cases e : a = b
    · rw [if_pos e]
      obtain ⟨S, h1, h2⟩ := strip_eq as bs
      exact ⟨a :: S, by rw [List.cons_append, ← h1], by rw [List.cons_append, ← h2, e]⟩
    · rw [if_neg e]
      exact ⟨[], rfl, rfl⟩
def ledM (n : Nat) (ps qs : List Int) : List Mv := (strip (cms n ps).reverse (cms n qs).reverse).1.reverse ++ (strip (cms n ps).reverse (cms n qs).reverse).2
/-- no word of the same row has fewer places -/
def Shr (n : Nat) (ps : List Int) : Prop := ps.length = (tp (wkd (rng n) ps)).length
instance {n : Nat} {ps : List Int} : Decidable (Shr n ps) := by
  unfold Shr
  exact inferInstance
theorem cms_short {n : Nat} {ps : List Int} (h1 : 1 ≤ n) (hp : Ok n ps) (hs : Shr n ps) : ∀ m ∈ cms n ps, m.1 ≠ Kd.drop := by
  obtain ⟨a, _, _, d⟩ := cms_ok h1 hp
  exact (gon_len a).2.2 (d.trans hs.symm)
theorem led_ok {n : Nat} {ps qs : List Int} (h1 : 1 ≤ n) (hp : Ok n ps) (hq : Ok n qs) (sp : Shr n ps) (sq : Shr n qs) (e : wkd (rng n) ps = wkd (rng n) qs) : gon ps (ledM n ps qs) = some qs ∧ (∀ m ∈ ledM n ps qs, m.1 ≠ Kd.drop) ∧ (ledM n ps qs).length ≤ (cms n ps).length + (cms n qs).length := by
  have a := (cms_ok h1 hp).1
  have b := (cms_ok h1 hq).1
  rw [← cwd_alike h1 hp hq e] at b
  have na := cms_short h1 hp sp
  have nb := cms_short h1 hq sq
  unfold ledM
  generalize cms n ps = A at a na
  generalize cms n qs = B at b nb
  obtain ⟨S, e1, e2⟩ := strip_eq A.reverse B.reverse
  generalize strip A.reverse B.reverse = R at e1 e2
  obtain ⟨X, Y⟩ := R
  dsimp only at e1 e2 ⊢
  have eA : A = X.reverse ++ S.reverse := by rw [← List.reverse_append, ← e1, List.reverse_reverse]
  have eB : B = Y.reverse ++ S.reverse := by rw [← List.reverse_append, ← e2, List.reverse_reverse]
  subst eA eB
  rw [gon_app] at a b
  obtain ⟨x, a1, a2⟩ := Option.bind_eq_some_iff.mp a
  obtain ⟨y, b1, b2⟩ := Option.bind_eq_some_iff.mp b
  have nS : ∀ m ∈ S.reverse, m.1 ≠ Kd.drop := fun m hm => na m (List.mem_append.mpr (.inr hm))
  have exy : x = y := Option.some.inj ((gon_back a2 nS).symm.trans (gon_back b2 nS))
  subst exy
  have back := gon_back b1 fun m hm => nb m (List.mem_append.mpr (.inl hm))
  rw [List.reverse_reverse] at back
  refine ⟨?_, fun m hm => ?_, ?_⟩
  · rw [gon_app, a1]
    exact back
  · rcases List.mem_append.mp hm with z | z
    · exact na m (List.mem_append.mpr (.inl z))
    · exact nb m (List.mem_append.mpr (.inl (List.mem_reverse.mpr z)))
  · simp only [List.length_append, List.length_reverse]
    omega
/-- both ends alike: one step of the program's loop -/
theorem strip_step {α : Type} [DecidableEq α] {A B : List α} {a : α} : strip (A ++ [a]).reverse (B ++ [a]).reverse = strip A.reverse B.reverse := by
  rw [List.reverse_append, List.reverse_append]
  show strip (a :: A.reverse) (a :: B.reverse) = _
  conv => lhs; unfold strip
  rw [if_pos rfl]
theorem strip_stop {α : Type} [DecidableEq α] {A B : List α} (h : ∀ A' B' a, ¬ (A = A' ++ [a] ∧ B = B' ++ [a])) : strip A.reverse B.reverse = (A.reverse, B.reverse) := by
  cases eA : A.reverse with
  | nil => unfold strip; rfl
  | cons a as =>
    cases eB : B.reverse with
    | nil => unfold strip; rfl
    | cons b bs =>
      unfold strip
      rw [if_neg]
      intro e
      subst e
      refine h as.reverse bs.reverse a ⟨?_, ?_⟩
      · rw [← List.reverse_cons, ← eA, List.reverse_reverse]
      · rw [← List.reverse_cons, ← eB, List.reverse_reverse]
theorem last_of {α : Type} {A : List α} (h : A ≠ []) : ∃ A' a, A = A' ++ [a] := ⟨A.dropLast, A.getLast h, (List.dropLast_concat_getLast h).symm⟩
theorem shr_nil (n : Nat) : Shr n [] := by
  show 0 = (tp (rng n)).length
  rw [tp_rng]
  rfl
theorem shr_init {n : Nat} {ps : List Int} {p : Int} (hp : Ok n (ps ++ [p])) (h : Shr n (ps ++ [p])) : Ok n ps ∧ Shr n ps := by
  have h0 : Ok n ps := fun q hq => hp q (List.mem_append.mpr (.inl hq))
  refine ⟨h0, ?_⟩
  have a := len_wkd (n := n) (ps := ps) rng_row h0
  have b := len_wkd (n := n) (ps := [p]) (wkd_row (n := n) (ps := ps) rng_row h0) fun q hq => hp q (List.mem_append.mpr (.inr hq))
  rw [← wkd_app, ← h, tp_rng] at *
  simp only [List.length_append, List.length_cons, List.length_nil] at a b
  unfold Shr
  omega
theorem long_not {n : Nat} {ps : List Int} {p : Int} (hp : Ok n ps) (h1 : 1 ≤ p) (h2 : p < (n : Int)) (h : Shr n ps) : Ok n (ps ++ [p, p]) ∧ ¬ Shr n (ps ++ [p, p]) := by
  refine ⟨Ok.app.mpr ⟨hp, fun q hq => ?_⟩, fun c => ?_⟩
  · simp at hq
    subst hq
    exact ⟨h1, h2⟩
  · have R := wkd_row (n := n) (ps := ps) rng_row hp
    have e : wkd (rng n) (ps ++ [p, p]) = wkd (rng n) ps := by
      rw [wkd_app]
      exact sw_sw h1 (by rw [R.len]; exact h2)
    unfold Shr at c h
    rw [e, ← h, List.length_append] at c
    simp at c
def dsc (r : List Int) : List Int := (rngI 0 ((r.length : Int) - 1)).filter fun i => decide (ga r i > ga r (i + 1))
theorem mem_dsc {n : Nat} {r : List Int} (R : Row n r) {i : Int} : i ∈ dsc r ↔ 0 ≤ i ∧ i + 1 < (n : Int) ∧ ga r (i + 1) < ga r i := by
  unfold dsc
  rw [List.mem_filter, mem_rngI, decide_eq_true_iff, R.len]
  constructor
  · rintro ⟨⟨a, b⟩, c⟩
    exact ⟨a, by omega, c⟩
  · rintro ⟨a, b, c⟩
    exact ⟨⟨a, by omega⟩, c⟩
theorem dsc_nil {n : Nat} {r : List Int} (R : Row n r) (h : dsc r = []) : r = rng n := by
  have up : ∀ i : Int, 0 ≤ i → i + 1 < (n : Int) → ga r i < ga r (i + 1) := fun i h0 h1 => by
    have ne := ga_ne (p := i + 1) R (by omega) h1
    have e : i + 1 - 1 = i := by omega
    rw [e] at ne
    have z : i ∉ dsc r := by
      rw [h]
      exact fun z => by cases z
    rw [mem_dsc R] at z
    have := fun c => z ⟨h0, h1, c⟩
    omega
  have lo : ∀ k : Nat, (k : Int) < (n : Int) → (k : Int) + 1 ≤ ga r (k : Int) := fun k => by
    induction k with
    | zero =>
      intro h
      have := (R.mem.mp (ga_idx R (i := ((0 : Nat) : Int)) (by omega) h).1).1
      omega
    | succ k ih =>
      intro h
      have := ih (by omega)
      have := up (k : Int) (by omega) (by omega)
      have e : (((k + 1 : Nat)) : Int) = (k : Int) + 1 := by omega
      rw [e]
      omega
  have hi : ∀ d k : Nat, k + d + 1 = n → ga r (k : Int) ≤ (k : Int) + 1 := fun d => by
    induction d with
    | zero =>
      intro k h
      have := (R.mem.mp (ga_idx R (i := (k : Int)) (by omega) (by omega)).1).2
      omega
    | succ d ih =>
      intro k h
      have t1 := ih (k + 1) (by omega)
      have := up (k : Int) (by omega) (by omega)
      have e : (((k + 1 : Nat)) : Int) = (k : Int) + 1 := by omega
      rw [e] at t1
      omega
  have rl := R.len
  refine List.ext_getElem? fun k => ?_
  by_cases hk : k < n
  · have e1 := ga_at (r := r) (i := (k : Int)) (by omega) (by omega)
    have l1 := lo k (by omega)
    have l2 := hi (n - k - 1) k (by omega)
    have e2 : ((k : Int)).toNat = k := by omega
    rw [e2] at e1
    rw [e1]
    unfold rng rngI
    rw [List.getElem?_map, List.getElem?_range (by omega)]
    show some (ga r (k : Int)) = some (1 + (k : Int))
    congr 1
    omega
  · rw [List.getElem?_eq_none (by omega), List.getElem?_eq_none (by rw [len_rngI]; omega)]
def swd (ns : List Int) (k : Int) : Nat → List Int → List Int → List Int
  | 0, _, fo => fo.reverse
  | f + 1, he, fo => if dsc he = [] then fo.reverse else swd ns k f (sw he (ga (dsc he) (drw ns (k + (fo.length : Int)) % ((dsc he).length : Int)) + 1)) (fo ++ [ga (dsc he) (drw ns (k + (fo.length : Int)) % ((dsc he).length : Int)) + 1])
def swdAt (ns : List Int) (k : Int) (he fo : List Int) : Int := ga (dsc he) (drw ns (k + (fo.length : Int)) % ((dsc he).length : Int))
theorem swdAt_ok {ns : List Int} {k : Int} {n : Nat} {he fo : List Int} (R : Row n he) (c : dsc he ≠ []) : 0 ≤ swdAt ns k he fo ∧ swdAt ns k he fo + 1 < (n : Int) ∧ ga he (swdAt ns k he fo + 1) < ga he (swdAt ns k he fo) := by
  have hl : 0 < (dsc he).length := List.length_pos_iff.mpr c
  have b1 := Int.emod_nonneg (drw ns (k + (fo.length : Int))) (b := ((dsc he).length : Int)) (by omega)
  have b2 := Int.emod_lt_of_pos (drw ns (k + (fo.length : Int))) (b := ((dsc he).length : Int)) (by omega)
  have z := ga_at (r := dsc he) b1 b2
  exact (mem_dsc R).mp (List.mem_of_getElem? z)
theorem len_dn {n : Nat} {he : List Int} {i : Int} (R : Row n he) (h0 : 0 ≤ i) (h1 : i + 1 < (n : Int)) (h2 : ga he (i + 1) < ga he i) : (tp he).length = (tp (sw he (i + 1))).length + 1 := by
  refine len_down R (by omega) h1 ?_
  have e : i + 1 - 1 = i := by omega
  rw [e]
  exact h2
theorem swd_ok {ns : List Int} {k : Int} {n : Nat} : ∀ (f : Nat) (he fo : List Int), Row n he → Ok n fo → (tp he).length = f →
    Ok n (swd ns k f he fo) ∧ wkd (rng n) (swd ns k f he fo) = wkd he fo.reverse ∧ (swd ns k f he fo).length = f + fo.length
  | 0, he, fo, R, ho, hf => by
    have e : dsc he = [] := by
      refine Decidable.byContradiction fun c => ?_
      obtain ⟨a1, a2, a3⟩ := swdAt_ok (ns := ns) (k := k) (fo := fo) R c
      have := len_dn R a1 a2 a3
      omega
    refine ⟨fun q hq => ho q (List.mem_reverse.mp hq), ?_, ?_⟩
    · rw [dsc_nil R e]
      rfl
    · show fo.reverse.length = _
      rw [List.length_reverse]
      omega
  | f + 1, he, fo, R, ho, hf => by
    unfold swd
    by_cases c : dsc he = []
    · have e := dsc_nil R c
      rw [e, tp_rng] at hf
      cases hf
    · rw [if_neg c]
      obtain ⟨a1, a2, a3⟩ := swdAt_ok (ns := ns) (k := k) (fo := fo) R c
      have dl := len_dn R a1 a2 a3
      show Ok n (swd ns k f (sw he (swdAt ns k he fo + 1)) (fo ++ [swdAt ns k he fo + 1])) ∧ wkd (rng n) (swd ns k f (sw he (swdAt ns k he fo + 1)) (fo ++ [swdAt ns k he fo + 1])) = _ ∧ (swd ns k f (sw he (swdAt ns k he fo + 1)) (fo ++ [swdAt ns k he fo + 1])).length = _
      generalize swdAt ns k he fo = i at a1 a2 a3 dl
      obtain ⟨b1, b2, b3⟩ := swd_ok (ns := ns) (k := k) f (sw he (i + 1)) (fo ++ [i + 1]) (sw_row R (by omega) a2) (Ok.app.mpr ⟨ho, fun q hq => by
        simp at hq
        subst hq
        exact ⟨by omega, a2⟩⟩) (by omega)
      refine ⟨b1, ?_, ?_⟩
      · rw [b2, List.reverse_append]
        show wkd (sw (sw he (i + 1)) (i + 1)) fo.reverse = _
        rw [sw_sw (by omega) (by rw [R.len]; exact a2)]
      · rw [b3, List.length_append]
        show f + (fo.length + 1) = _
        omega
def shw (ns : List Int) (k : Int) (r : List Int) : List Int := swd ns k (tp r).length r []
theorem shw_ok {ns : List Int} {k : Int} {n : Nat} {r : List Int} (R : Row n r) : Ok n (shw ns k r) ∧ wkd (rng n) (shw ns k r) = r ∧ (shw ns k r).length = (tp r).length := by
  obtain ⟨a, b, c⟩ := swd_ok (ns := ns) (k := k) (tp r).length r [] R (fun q hq => by cases hq) rfl
  exact ⟨a, b, c⟩
theorem shw_short {ns : List Int} {k : Int} {n : Nat} {r : List Int} (R : Row n r) : Shr n (shw ns k r) := by
  obtain ⟨a, b, c⟩ := shw_ok (ns := ns) (k := k) R
  unfold Shr
  rw [b, c]
end Sw

set_option linter.all false
namespace Sw
/-- drawn rows, from any place of the script on, of at most m things -/
def gmany (ns : List Int) (k m : Int) : Nat := (1 + drw ns k / 8 % m).toNat
def gone (ns : List Int) (k m : Int) : List Int := if decide (drw ns k % 4 = 1) = true then lup ns (k + 20) (rng (gmany ns k m)) (drw ns k / 64 % (2 * (gmany ns k m : Int))).toNat else lrow ns (k + 1) (gmany ns k m)
def gother (ns : List Int) (k m : Int) : List Int := if decide (drw ns k % 8 > 4) = true then lup ns (k + 70) (gone ns k m) (drw ns k / 512 % (2 * (gmany ns k m : Int) + 1)).toNat else lrow ns (k + 50) (gmany ns k m)
theorem gmany_b {ns : List Int} {k m : Int} (h : 1 ≤ m) : 1 ≤ gmany ns k m ∧ (gmany ns k m : Int) ≤ m ∧ (gmany ns k m : Int) = 1 + drw ns k / 8 % m := by
  have h1 := Int.emod_nonneg (drw ns k / 8) (b := m) (by omega)
  have h2 := Int.emod_lt_of_pos (drw ns k / 8) (b := m) (by omega)
  unfold gmany
  omega
theorem gone_row {ns : List Int} {k m : Int} : Row (gmany ns k m) (gone ns k m) := by
  unfold gone
  split
  · exact lup_row rng_row _
  · exact lrow_row
theorem gother_row {ns : List Int} {k m : Int} : Row (gmany ns k m) (gother ns k m) := by
  unfold gother
  split
  · exact lup_row gone_row _
  · exact lrow_row
/-- a thing put in at each place -/
def ins (t : Int) (r : List Int) : List (List Int) := (List.range (r.length + 1)).map fun a => r.take a ++ [t] ++ r.drop a
def rowsR : Nat → List (List Int)
  | 0 => [[]]
  | n + 1 => (rowsR n).flatMap (ins ((n : Int) + 1))
theorem ins_perm {t : Int} {r x : List Int} (h : x ∈ ins t r) : x.Perm (t :: r) := by
  obtain ⟨a, _, rfl⟩ := List.mem_map.mp h
  have e : r = r.take a ++ r.drop a := (List.take_append_drop a r).symm
  refine List.Perm.trans ?_ (List.Perm.cons t (List.Perm.of_eq e.symm))
  rw [List.append_assoc]
  exact List.perm_middle
theorem rng_snoc (n : Nat) : rng (n + 1) = rng n ++ [((n : Int) + 1)] := by
  show rngI 1 (((n + 1 : Nat) : Int) + 1) = _
  rw [rngI_split (b := (n : Int) + 1) (by omega) (by omega)]
  congr 1
  have e : (((n + 1 : Nat) : Int) + 1) = ((n : Int) + 1) + 1 := by omega
  rw [e, rngI_one]
theorem rowsR_row : ∀ {n : Nat} {r : List Int}, r ∈ rowsR n → Row n r
  | 0, r, h => by
    cases List.mem_singleton.mp h
    exact ⟨List.Perm.refl _⟩
  | n + 1, r, h => by
    obtain ⟨q, hq, hr⟩ := List.mem_flatMap.mp h
    refine ⟨((ins_perm hr).trans (List.Perm.cons _ (rowsR_row hq).perm)).trans ?_⟩
    rw [rng_snoc]
    exact (List.perm_append_singleton _ _).symm
theorem rowsR_all : ∀ {n : Nat} {r : List Int}, Row n r → r ∈ rowsR n
  | 0, r, R => by
    have e : r = [] := List.eq_nil_of_length_eq_zero R.len
    rw [e]
    exact List.mem_singleton.mpr rfl
  | n + 1, r, R => by
    have hm : ((n : Int) + 1) ∈ r := R.mem.mpr (by omega)
    obtain ⟨s, u, e⟩ := List.append_of_mem hm
    subst e
    have p : (((n : Int) + 1) :: (s ++ u)).Perm (((n : Int) + 1) :: rng n) := (List.perm_middle.symm.trans R.perm).trans (by
      rw [rng_snoc]
      exact List.perm_append_singleton _ _)
    refine List.mem_flatMap.mpr ⟨s ++ u, rowsR_all ⟨p.cons_inv⟩, List.mem_map.mpr ⟨s.length, ?_, ?_⟩⟩
    · rw [List.mem_range, List.length_append]
      omega
    · rw [List.take_left, List.drop_left, List.append_assoc]
      rfl
theorem ins_len {t : Int} {r : List Int} : (ins t r).length = r.length + 1 := by
  unfold ins
  rw [List.length_map, List.length_range]
theorem rowsR_len : ∀ {n : Nat}, n ≤ 6 → (rowsR n).length ≤ 720 := by
  have step : ∀ (n : Nat) (l : List (List Int)), (∀ r ∈ l, r.length = n) → (l.flatMap (ins ((n : Int) + 1))).length = l.length * (n + 1) := by
    intro n l
    induction l with
    | nil => intro _; simp
    | cons x l ih =>
      intro h
      rw [List.flatMap_cons, List.length_append, ins_len, h x List.mem_cons_self, ih fun r hr => h r (List.mem_cons_of_mem _ hr), List.length_cons, Nat.succ_mul]
      omega
  have st : ∀ n, (rowsR (n + 1)).length = (rowsR n).length * (n + 1) := fun n => step n (rowsR n) fun r hr => (rowsR_row hr).len
  intro n h
  have h0 : (rowsR 0).length = 1 := rfl
  obtain ⟨L, hL⟩ : ∃ L : Nat → Nat, ∀ n, (rowsR n).length = L n := ⟨fun n => (rowsR n).length, fun _ => rfl⟩
  have st : ∀ n, L (n + 1) = L n * (n + 1) := fun n => by
    rw [← hL, ← hL]
    exact st n
  rw [hL] at h0 ⊢
  have h1 : L 1 = L 0 * 1 := st 0
  have h2 : L 2 = L 1 * 2 := st 1
  have h3 : L 3 = L 2 * 3 := st 2
  have h4 : L 4 = L 3 * 4 := st 3
  have h5 : L 5 = L 4 * 5 := st 4
  have h6 : L 6 = L 5 * 6 := st 5
  have hn : n = 0 ∨ n = 1 ∨ n = 2 ∨ n = 3 ∨ n = 4 ∨ n = 5 ∨ n = 6 := by omega
  rcases hn with e | e | e | e | e | e | e <;> rw [e] <;> omega
theorem nodup_len : ∀ {l m : List (Int × Int)}, l.Nodup → (∀ x ∈ l, x ∈ m) → l.length ≤ m.length
  | [], _, _, _ => Nat.zero_le _
  | x :: l, m, nd, h => by
    obtain ⟨n1, n2⟩ := List.nodup_cons.mp nd
    have hx := h x List.mem_cons_self
    have ih := nodup_len (m := m.erase x) n2 fun y hy => (List.mem_erase_of_ne fun e => n1 (by rw [← e]; exact hy)).mpr (h y (List.mem_cons_of_mem _ hy))
    rw [List.length_erase_of_mem hx] at ih
    have := List.length_pos_of_mem hx
    rw [List.length_cons]
    omega
/-- some within others -/
def wi (ps qs : List (Int × Int)) : Bool := decide (ps.filter (fun p => !decide (p ∈ qs)) = [])
theorem wi_iff {ps qs : List (Int × Int)} : wi ps qs = true ↔ ∀ p ∈ ps, p ∈ qs := by
  unfold wi
  rw [decide_eq_true_iff, List.filter_eq_nil_iff]
  refine ⟨fun h p hp => ?_, fun h p hp => ?_⟩
  · have z := h p hp
    by_cases q : p ∈ qs
    · exact q
    · rw [decide_eq_false q] at z
      exact absurd rfl z
  · rw [decide_eq_true (h p hp)]
    decide
theorem wi_le {n : Nat} {r s : List Int} (R : Row n r) (S : Row n s) : wi (tp r) (tp s) = true ↔ Le r s := by
  rw [wi_iff]
  refine ⟨fun h a b q => (mem_tp S.nodup a b).mp (h _ ((mem_tp R.nodup a b).mpr q)), fun h p hp => ?_⟩
  obtain ⟨a, b⟩ := p
  exact (mem_tp S.nodup a b).mpr (h a b ((mem_tp R.nodup a b).mp hp))
theorem sub_len {r s : List Int} {n : Nat} (R : Row n r) (S : Row n s) (h : Le r s) : (tp r).length ≤ (tp s).length :=
  nodup_len (nodup_tp R.nodup) fun p hp => (wi_iff.mp ((wi_le R S).mpr h)) p hp
theorem le_len {r s : List Int} {n : Nat} (R : Row n r) (S : Row n s) (h : Le r s) (e : (tp s).length ≤ (tp r).length) : r = s := by
  refine Le.anti R S h fun a b q => ?_
  have hs : ∀ p ∈ tp r, p ∈ tp s := fun p hp => (wi_iff.mp ((wi_le R S).mpr h)) p hp
  have key : ∀ p ∈ tp s, p ∈ tp r := fun p hp => Classical.byContradiction fun np => by
    have l := nodup_len (l := p :: tp r) (m := tp s) (List.nodup_cons.mpr ⟨np, nodup_tp R.nodup⟩) fun x hx => by
      rcases List.mem_cons.mp hx with z | z
      · rw [z]
        exact hp
      · exact hs x z
    rw [List.length_cons] at l
    omega
  exact (mem_tp R.nodup a b).mp (key _ ((mem_tp S.nodup a b).mpr q))
/-- the first of a sorted list -/
theorem sort_first {α : Type} {xs : List α} (kf : α → Int) {x : α} (h : (xs.mergeSort fun x y => decide (kf x ≤ kf y))[0]? = some x) : x ∈ xs ∧ ∀ y ∈ xs, kf x ≤ kf y := by
  have pw := List.pairwise_mergeSort (le := fun x y => decide (kf x ≤ kf y)) (fun a b c h1 h2 => by
    rw [decide_eq_true_iff] at h1 h2 ⊢
    omega) (fun a b => by
    rw [Bool.or_eq_true, decide_eq_true_iff, decide_eq_true_iff]
    omega) xs
  have pm := List.mergeSort_perm xs fun x y => decide (kf x ≤ kf y)
  generalize (xs.mergeSort fun x y => decide (kf x ≤ kf y)) = ys at h pw pm
  cases ys with
  | nil => cases h
  | cons z zs =>
    have e : z = x := Option.some.inj h
    subst e
    refine ⟨pm.mem_iff.mp List.mem_cons_self, fun y hy => ?_⟩
    rcases List.mem_cons.mp (pm.mem_iff.mpr hy) with q | q
    · rw [q]
      exact Int.le_refl _
    · exact of_decide_eq_true ((List.pairwise_cons.mp pw).1 y q)
/-- each row beside its turned pairs -/
def both (n : Nat) : List (List Int × List (Int × Int)) := (rowsR n).map fun r => (r, tp r)
def abv (r s : List Int) : List (List Int × List (Int × Int)) := (both r.length).filter fun x => wi (tp r) x.2 && wi (tp s) x.2
def blw (r s : List Int) : List (List Int × List (Int × Int)) := (both r.length).filter fun x => wi x.2 (tp r) && wi x.2 (tp s)
section
variable {n : Nat} {r s : List Int} {x : List Int × List (Int × Int)}
theorem mem_both : x ∈ both n ↔ Row n x.1 ∧ x.2 = tp x.1 := by
  obtain ⟨a, b⟩ := x
  unfold both
  rw [List.mem_map]
  refine ⟨fun ⟨q, hq, e⟩ => ?_, fun ⟨h1, h2⟩ => ⟨a, rowsR_all h1, by rw [← (show b = tp a from h2)]⟩⟩
  injection e with e1 e2
  subst e1
  exact ⟨rowsR_row hq, e2.symm⟩
theorem mem_abv (R : Row n r) (S : Row n s) : x ∈ abv r s ↔ Row n x.1 ∧ x.2 = tp x.1 ∧ Le r x.1 ∧ Le s x.1 := by
  unfold abv
  rw [List.mem_filter, R.len, mem_both, Bool.and_eq_true]
  refine ⟨fun ⟨⟨h1, h2⟩, h3, h4⟩ => ?_, fun ⟨h1, h2, h3, h4⟩ => ?_⟩
  · rw [h2] at h3 h4
    exact ⟨h1, h2, (wi_le R h1).mp h3, (wi_le S h1).mp h4⟩
  · rw [h2]
    exact ⟨⟨h1, rfl⟩, (wi_le R h1).mpr h3, (wi_le S h1).mpr h4⟩
theorem mem_blw (R : Row n r) (S : Row n s) : x ∈ blw r s ↔ Row n x.1 ∧ x.2 = tp x.1 ∧ Le x.1 r ∧ Le x.1 s := by
  unfold blw
  rw [List.mem_filter, R.len, mem_both, Bool.and_eq_true]
  refine ⟨fun ⟨⟨h1, h2⟩, h3, h4⟩ => ?_, fun ⟨h1, h2, h3, h4⟩ => ?_⟩
  · rw [h2] at h3 h4
    exact ⟨h1, h2, (wi_le h1 R).mp h3, (wi_le h1 S).mp h4⟩
  · rw [h2]
    exact ⟨⟨h1, rfl⟩, (wi_le h1 R).mpr h3, (wi_le h1 S).mpr h4⟩
theorem first_abv (R : Row n r) (S : Row n s) : ((abv r s).mergeSort fun x y => decide (((x.2.length : Nat) : Int) ≤ ((y.2.length : Nat) : Int)))[0]? = some (jn r s, tp (jn r s)) := by
  have J := jn_row R (s := s)
  have hj : (jn r s, tp (jn r s)) ∈ abv r s := (mem_abv R S).mpr ⟨J, rfl, jn_left R S, jn_right R S⟩
  have hl : 0 < ((abv r s).mergeSort fun x y => decide (((x.2.length : Nat) : Int) ≤ ((y.2.length : Nat) : Int))).length := by
    rw [List.length_mergeSort]
    exact List.length_pos_of_mem hj
  have h0 := List.getElem?_eq_getElem hl
  generalize (((abv r s).mergeSort fun x y => decide (((x.2.length : Nat) : Int) ≤ ((y.2.length : Nat) : Int))))[0]'hl = x at h0
  rw [h0]
  obtain ⟨m1, m2⟩ := sort_first (fun x : List Int × List (Int × Int) => ((x.2.length : Nat) : Int)) h0
  obtain ⟨a1, a2, a3, a4⟩ := (mem_abv R S).mp m1
  have z : ((x.2.length : Nat) : Int) ≤ (((tp (jn r s)).length : Nat) : Int) := m2 _ hj
  rw [a2] at z
  have e : jn r s = x.1 := le_len J a1 (jn_least R S a3 a4) (by omega)
  obtain ⟨u, v⟩ := x
  have e : jn r s = u := e
  have a2 : v = tp u := a2
  rw [a2, ← e]
theorem first_blw (R : Row n r) (S : Row n s) : ((blw r s).mergeSort fun x y => decide ((0 : Int) - ((x.2.length : Nat) : Int) ≤ 0 - ((y.2.length : Nat) : Int)))[0]? = some (mt r s, tp (mt r s)) := by
  have J := mt_row R (s := s)
  have hj : (mt r s, tp (mt r s)) ∈ blw r s := (mem_blw R S).mpr ⟨J, rfl, mt_left R S, mt_right R S⟩
  have hl : 0 < ((blw r s).mergeSort fun x y => decide ((0 : Int) - ((x.2.length : Nat) : Int) ≤ 0 - ((y.2.length : Nat) : Int))).length := by
    rw [List.length_mergeSort]
    exact List.length_pos_of_mem hj
  have h0 := List.getElem?_eq_getElem hl
  generalize (((blw r s).mergeSort fun x y => decide ((0 : Int) - ((x.2.length : Nat) : Int) ≤ 0 - ((y.2.length : Nat) : Int))))[0]'hl = x at h0
  rw [h0]
  obtain ⟨m1, m2⟩ := sort_first (fun x : List Int × List (Int × Int) => (0 : Int) - ((x.2.length : Nat) : Int)) h0
  obtain ⟨a1, a2, a3, a4⟩ := (mem_blw R S).mp m1
  have z : (0 : Int) - ((x.2.length : Nat) : Int) ≤ 0 - (((tp (mt r s)).length : Nat) : Int) := m2 _ hj
  rw [a2] at z
  have e : x.1 = mt r s := le_len a1 J (mt_greatest R S a1 a3 a4) (by omega)
  obtain ⟨u, v⟩ := x
  have e : u = mt r s := e
  have a2 : v = tp u := a2
  rw [a2, e]
theorem all_abv (R : Row n r) (S : Row n s) : ((abv r s).map fun x => wi (tp (jn r s)) x.2).all id = true := by
  rw [List.all_eq_true]
  intro b hb
  obtain ⟨x, hx, rfl⟩ := List.mem_map.mp hb
  obtain ⟨a1, a2, a3, a4⟩ := (mem_abv R S).mp hx
  show wi _ x.2 = true
  rw [a2]
  exact (wi_le (jn_row R) a1).mpr (jn_least R S a3 a4)
theorem all_blw (R : Row n r) (S : Row n s) : ((blw r s).map fun x => wi x.2 (tp (mt r s))).all id = true := by
  rw [List.all_eq_true]
  intro b hb
  obtain ⟨x, hx, rfl⟩ := List.mem_map.mp hb
  obtain ⟨a1, a2, a3, a4⟩ := (mem_blw R S).mp hx
  show wi x.2 _ = true
  rw [a2]
  exact (wi_le a1 (mt_row R)).mpr (mt_greatest R S a1 a3 a4)
end
end Sw

set_option linter.all false
namespace Sw
def madeC (ps : List (Int × Int)) : Nat → List Int
  | 0 => []
  | n + 1 => (madeC ps n).take ((madeC ps n).length - (ps.filter fun p => decide (p.2 = (n : Int) + 1)).length) ++ [((n : Int) + 1)] ++ (madeC ps n).drop ((madeC ps n).length - (ps.filter fun p => decide (p.2 = (n : Int) + 1)).length)
theorem madeC_row (ps : List (Int × Int)) : ∀ n, Row n (madeC ps n)
  | 0 => ⟨List.Perm.refl _⟩
  | n + 1 => by
    have ih := madeC_row ps n
    generalize hf : madeC ps n = f at ih
    have e : madeC ps (n + 1) = f.take (f.length - (ps.filter fun p => decide (p.2 = (n : Int) + 1)).length) ++ [((n : Int) + 1)] ++ f.drop (f.length - (ps.filter fun p => decide (p.2 = (n : Int) + 1)).length) := by
      rw [← hf]
      rfl
    rw [e]
    generalize f.length - (ps.filter fun p => decide (p.2 = (n : Int) + 1)).length = a
    refine ⟨?_⟩
    rw [rng_snoc, List.append_assoc]
    refine (List.perm_middle (a := ((n : Int) + 1)) (l₁ := f.take a) (l₂ := f.drop a)).trans ?_
    rw [List.take_append_drop]
    exact (List.Perm.cons _ ih.perm).trans (List.perm_append_singleton _ _).symm
theorem bef_mid {s u : List Int} {t a : Int} (nd : (s ++ t :: u).Nodup) : Bef (s ++ t :: u) t a ↔ a ∈ u := by
  have ts : ¬ t ∈ s := fun h => by
    have := (List.nodup_append.mp nd).2.2 t h t List.mem_cons_self
    exact this rfl
  have it : (s ++ t :: u).idxOf t = s.length := by
    rw [List.idxOf_append, if_neg ts, List.idxOf_cons_self]
    omega
  unfold Bef
  rw [it]
  constructor
  · rintro ⟨h1, h2⟩
    rcases List.mem_append.mp h2 with z | z
    · rw [List.idxOf_append, if_pos z] at h1
      have := List.idxOf_lt_length_iff.mpr z
      omega
    · rcases List.mem_cons.mp z with y | y
      · rw [y, it] at h1
        omega
      · exact y
  · intro h
    have as : ¬ a ∈ s := fun z => (List.nodup_append.mp nd).2.2 a z a (List.mem_cons_of_mem _ h) rfl
    have ne : t ≠ a := fun z => by
      have := (List.nodup_cons.mp (List.nodup_append.mp nd).2.1).1
      rw [z] at this
      exact this h
    refine ⟨?_, List.mem_append.mpr (.inr (List.mem_cons_of_mem _ h))⟩
    rw [List.idxOf_append, if_neg as, idx_ne ne]
    omega
theorem made_step {m n : Nat} {r : List Int} {ps : List (Int × Int)} (R : Row m r) (np : ps.Nodup) (h : ∀ a b, (a, b) ∈ ps ↔ Inv r a b) : n ≤ m → madeC ps n = r.filter fun x => decide (x ≤ (n : Int)) := by
  induction n with
  | zero =>
    intro _
    refine (List.filter_eq_nil_iff.mpr fun x hx => ?_).symm
    have := R.mem.mp hx
    simp
    omega
  | succ n ih =>
    intro hm
    have hf := ih (by omega)
    have hmem : ((n : Int) + 1) ∈ r := R.mem.mpr (by omega)
    obtain ⟨s, u, e⟩ := List.append_of_mem hmem
    have nd := R.nodup
    rw [e] at nd
    have out : ∀ x ∈ s ++ u, (decide (x ≤ ((n + 1 : Nat) : Int)) = decide (x ≤ (n : Int))) := fun x hx => by
      have ne : x ≠ (n : Int) + 1 := fun z => by
        subst z
        have nd2 := (List.nodup_cons.mp (List.perm_middle.nodup_iff.mp nd)).1
        exact nd2 hx
      rw [decide_eq_decide]
      omega
    have fs : (s.filter fun x => decide (x ≤ ((n + 1 : Nat) : Int))) = s.filter fun x => decide (x ≤ (n : Int)) := List.filter_congr fun x hx => out x (List.mem_append.mpr (.inl hx))
    have fu : (u.filter fun x => decide (x ≤ ((n + 1 : Nat) : Int))) = u.filter fun x => decide (x ≤ (n : Int)) := List.filter_congr fun x hx => out x (List.mem_append.mpr (.inr hx))
    have e0 : (r.filter fun x => decide (x ≤ (n : Int))) = (s.filter fun x => decide (x ≤ (n : Int))) ++ u.filter fun x => decide (x ≤ (n : Int)) := by
      rw [e, List.filter_append, List.filter_cons, if_neg (by simp; omega)]
    have e1 : (r.filter fun x => decide (x ≤ ((n + 1 : Nat) : Int))) = (s.filter fun x => decide (x ≤ (n : Int))) ++ ((n : Int) + 1) :: u.filter fun x => decide (x ≤ (n : Int)) := by
      rw [e, List.filter_append, List.filter_cons, if_pos (by simp), fs, fu]
    have cnt : (ps.filter fun p => decide (p.2 = (n : Int) + 1)).length = (u.filter fun x => decide (x ≤ (n : Int))).length := by
      have pm : (ps.filter fun p => decide (p.2 = (n : Int) + 1)).Perm ((u.filter fun x => decide (x ≤ (n : Int))).map fun x => (x, (n : Int) + 1)) := by
        refine perm_of_mem (np.filter _) ?_ fun ⟨a, b⟩ => ?_
        · have ndu : u.Nodup := (List.nodup_cons.mp (List.nodup_append.mp nd).2.1).2
          refine List.Pairwise.map _ (R := fun i j => i ≠ j) (fun i j hij z => hij ?_) (ndu.filter _)
          injection z
        · rw [List.mem_filter, List.mem_map, h]
          constructor
          · rintro ⟨h1, h2⟩
            have h2 : b = (n : Int) + 1 := of_decide_eq_true h2
            subst h2
            have hb : Bef r ((n : Int) + 1) a := h1.2
            rw [e] at hb
            refine ⟨a, List.mem_filter.mpr ⟨(bef_mid nd).mp hb, decide_eq_true ?_⟩, rfl⟩
            have := h1.1
            omega
          · rintro ⟨x, hx, z⟩
            injection z with z1 z2
            subst z1 z2
            obtain ⟨hu, hx2⟩ := List.mem_filter.mp hx
            have hx2 := of_decide_eq_true hx2
            refine ⟨⟨by omega, ?_⟩, decide_eq_true rfl⟩
            rw [e]
            exact (bef_mid nd).mpr hu
      rw [pm.length_eq, List.length_map]
    have ed : madeC ps (n + 1) = (madeC ps n).take ((madeC ps n).length - (ps.filter fun p => decide (p.2 = (n : Int) + 1)).length) ++ [((n : Int) + 1)] ++ (madeC ps n).drop ((madeC ps n).length - (ps.filter fun p => decide (p.2 = (n : Int) + 1)).length) := rfl
    rw [ed, e1, cnt, hf, e0, List.length_append]
    generalize (s.filter fun x => decide (x ≤ (n : Int))) = A
    generalize (u.filter fun x => decide (x ≤ (n : Int))) = B
    have z : A.length + B.length - B.length = A.length := by omega
    rw [z, List.take_left, List.drop_left, List.append_assoc]
    rfl
/-- a row is made of its turned pairs -/
theorem made_of {m : Nat} {r : List Int} {ps : List (Int × Int)} (R : Row m r) (np : ps.Nodup) (h : ∀ a b, (a, b) ∈ ps ↔ Inv r a b) : madeC ps m = r := by
  rw [made_step R np h (Nat.le_refl m)]
  exact List.filter_eq_self.mpr fun x hx => decide_eq_true (R.mem.mp hx).2
end Sw

set_option linter.all false
namespace Sw
theorem rwP_gen {ps : List (Int × Int)} {n : Nat} {out : List Int} (hp : out.Perm (rng n)) (hs : out.Pairwise fun x y => ahead (fun a b => decide ((a, b) ∈ putAll [] ps)) n x ≤ ahead (fun a b => decide ((a, b) ∈ putAll [] ps)) n y) :
    (tp out = srtP ps ↔ tp (madeC ps n) = srtP ps) ∧ (tp (madeC ps n) = srtP ps → out = madeC ps n) := by
  have R : Row n out := ⟨hp⟩
  have key : ∀ {r : List Int}, Row n r → tp r = srtP ps → ps.Nodup ∧ ∀ a b, (a, b) ∈ ps ↔ Inv r a b := fun {r} R e => by
    have pe : ps.Perm (tp r) := by
      rw [e]
      exact (srtP_perm ps).symm
    exact ⟨(List.Perm.nodup_iff pe).mpr (nodup_tp R.nodup), fun a b => by rw [pe.mem_iff, mem_tp R.nodup]⟩
  have back : tp (madeC ps n) = srtP ps → out = madeC ps n := fun e => by
    obtain ⟨np, h⟩ := key (madeC_row ps n) e
    refine sorted_row (madeC_row ps n) (fun a b => ?_) hp hs
    rw [decide_eq_true_iff, mem_putAll, ← h]
    simp
  refine ⟨⟨fun e => ?_, fun e => ?_⟩, back⟩
  · obtain ⟨np, h⟩ := key R e
    rw [made_of R np h]
    exact e
  · rw [back e]
    exact e
section
variable {α : Type}
def shS (ns : List Int) (k : Int) (xs : List α) : Nat → List α × List α
  | 0 => (xs, [])
  | j + 1 => ((shS ns k xs j).1.eraseIdx (drw ns (k + (j : Int)) % ((shS ns k xs j).1.length : Int)).toNat, (shS ns k xs j).2 ++ ((shS ns k xs j).1[(drw ns (k + (j : Int)) % ((shS ns k xs j).1.length : Int)).toNat]?).toList)
def shf (ns : List Int) (k : Int) (xs : List α) : List α := (shS ns k xs xs.length).2
theorem shS_ok {ns : List Int} {k : Int} {xs : List α} : ∀ j : Nat, j ≤ xs.length → (shS ns k xs j).1.length = xs.length - j ∧ (shS ns k xs j).2.length = j ∧ ((shS ns k xs j).2 ++ (shS ns k xs j).1).Perm xs
  | 0, _ => ⟨by show xs.length = _; omega, rfl, List.Perm.refl _⟩
  | j + 1, h => by
    obtain ⟨a, b, c⟩ := shS_ok (ns := ns) (k := k) (xs := xs) j (by omega)
    have b1 := Int.emod_nonneg (drw ns (k + (j : Int))) (b := ((shS ns k xs j).1.length : Int)) (by omega)
    have b2 := Int.emod_lt_of_pos (drw ns (k + (j : Int))) (b := ((shS ns k xs j).1.length : Int)) (by omega)
    unfold shS
    generalize hi0 : (drw ns (k + (j : Int)) % ((shS ns k xs j).1.length : Int)).toNat = i
    have hi : i < (shS ns k xs j).1.length := by omega
    clear hi0 b1 b2
    generalize shS ns k xs j = S at a b c hi ⊢
    obtain ⟨l, f⟩ := S
    dsimp only at a b c hi ⊢
    rw [List.getElem?_eq_getElem hi]
    refine ⟨by rw [List.length_eraseIdx, if_pos hi]; omega, by simp [b], ?_⟩
    refine List.Perm.trans ?_ c
    rw [List.append_assoc]
    refine List.Perm.append_left f ?_
    have e : l = l.take i ++ l[i] :: l.drop (i + 1) := by
      rw [List.getElem_cons_drop hi, List.take_append_drop]
    rw [List.eraseIdx_eq_take_drop_succ]
    conv => rhs; rw [e]
    show (l[i] :: (l.take i ++ l.drop (i + 1))).Perm _
    exact List.perm_middle.symm
theorem shf_perm {ns : List Int} {k : Int} {xs : List α} : (shf ns k xs).Perm xs := by
  obtain ⟨a, b, c⟩ := shS_ok (ns := ns) (k := k) (xs := xs) xs.length (Nat.le_refl _)
  have e : (shS ns k xs xs.length).1 = [] := List.eq_nil_of_length_eq_zero (by omega)
  rw [e, List.append_nil] at c
  exact c
end
end Sw

set_option linter.all false
set_option maxRecDepth 100000
namespace Ho
open PySem PySem.Spec PySem.Calls PyProof.Rows L2 LamX NdefX Ed
def strI (i : Int) : Str := Str.ofString (toString i)
def tsp : Str := Str.ofString " "
def txt (ns : List Int) : Str := Txt.join tsp (ns.map strI)
theorem strI_len {i : Int} (h0 : 0 ≤ i) (h1 : i ≤ 13) : (strI i).length ≤ 2 := by
  have key : ∀ n : Fin 14, (strI ((n.val : Nat) : Int)).length ≤ 2 := by decide +kernel
  have z := key ⟨i.toNat, by omega⟩
  have e : ((i.toNat : Nat) : Int) = i := Int.toNat_of_nonneg h0
  rw [← e]
  exact z
theorem strI_inj {i j : Int} (h0 : 0 ≤ i) (h1 : i ≤ 13) (g0 : 0 ≤ j) (g1 : j ≤ 13) (e : strI i = strI j) : i = j := by
  have key : ∀ n m : Fin 14, strI ((n.val : Nat) : Int) = strI ((m.val : Nat) : Int) → n = m := by decide +kernel
  have e1 : ((i.toNat : Nat) : Int) = i := Int.toNat_of_nonneg h0
  have e2 : ((j.toNat : Nat) : Int) = j := Int.toNat_of_nonneg g0
  have z := key ⟨i.toNat, by omega⟩ ⟨j.toNat, by omega⟩ (by rw [e1, e2]; exact e)
  have z := congrArg Fin.val z
  have z : i.toNat = j.toNat := z
  omega
theorem log_small {i : Int} (h0 : 0 ≤ i) (h1 : i ≤ 13) : i.natAbs.log2 < 1920 := by
  have key : ∀ n : Fin 14, (((n.val : Nat) : Int)).natAbs.log2 < 1920 := by decide +kernel
  have z := key ⟨i.toNat, by omega⟩
  have e : ((i.toNat : Nat) : Int) = i := Int.toNat_of_nonneg h0
  rw [← e]
  exact z
def knd (m : Int) : List (Str × Int) := (Sw.rngI 1 (m + 1)).map fun i => (strI i, i)
theorem knd_nodup {m : Int} (hm : m ≤ 13) : ((Sw.rngI 1 (m + 1)).map strI).Nodup := by
  unfold List.Nodup
  rw [List.pairwise_map]
  refine List.Pairwise.imp_of_mem (fun {a b} ha hb h e => h ?_) (Sw.nodup_rngI 1 (m + 1))
  have h1 := Sw.mem_rngI.mp ha
  have h2 := Sw.mem_rngI.mp hb
  exact strI_inj (by omega) (by omega) (by omega) (by omega) e
theorem look_map {f : Int → Str} {s : Str} {k : Int} : ∀ {xs : List Int}, (∀ i ∈ xs, ∀ j ∈ xs, f i = f j → i = j) → (look (xs.map fun i => (f i, i)) s = some k ↔ k ∈ xs ∧ s = f k)
  | [], _ => by
    constructor
    · intro h
      cases h
    · rintro ⟨h, _⟩
      cases h
  | x :: xs, inj => by
    have ih := look_map (f := f) (s := s) (k := k) (xs := xs) fun i hi j hj => inj i (List.mem_cons_of_mem _ hi) j (List.mem_cons_of_mem _ hj)
    by_cases e : f x = s
    · have l : look ((x :: xs).map fun i => (f i, i)) s = some x := by
        unfold look
        rw [List.map_cons, List.find?_cons, decide_eq_true e]
        rfl
      rw [l]
      constructor
      · intro h
        cases h
        exact ⟨List.mem_cons_self, e.symm⟩
      · rintro ⟨h1, h2⟩
        rw [inj x List.mem_cons_self k h1 (e.trans h2)]
    · have l : look ((x :: xs).map fun i => (f i, i)) s = look (xs.map fun i => (f i, i)) s := by
        unfold look
        rw [List.map_cons, List.find?_cons, decide_eq_false e]
      rw [l, ih]
      constructor
      · rintro ⟨h1, h2⟩
        exact ⟨List.mem_cons_of_mem _ h1, h2⟩
      · rintro ⟨h1, h2⟩
        rcases List.mem_cons.mp h1 with z | z
        · subst z
          exact absurd h2.symm e
        · exact ⟨z, h2⟩
theorem look_knd {m k : Int} {s : Str} (hm : m ≤ 13) : look (knd m) s = some k ↔ (1 ≤ k ∧ k ≤ m) ∧ s = strI k := by
  unfold knd
  rw [look_map, Sw.mem_rngI]
  · constructor
    · rintro ⟨⟨a, b⟩, c⟩
      exact ⟨⟨a, by omega⟩, c⟩
    · rintro ⟨⟨a, b⟩, c⟩
      exact ⟨⟨a, by omega⟩, c⟩
  · intro i hi j hj e
    have h1 := Sw.mem_rngI.mp hi
    have h2 := Sw.mem_rngI.mp hj
    exact strI_inj (by omega) (by omega) (by omega) (by omega) e
/-- what a text writes, numbers of 1 to m -/
def rdf (t : Str) (m : Int) : Option (List Int) := if ((Txt.split t tsp).map fun s => (look (knd m) s).isSome).all id = true then some ((Txt.split t tsp).map fun s => (look (knd m) s).getD 0) else none
theorem tlen_le {ns : List Int} (h : ∀ i ∈ ns, 0 ≤ i ∧ i ≤ 13) : tlen (ns.map strI) ≤ 2 * ns.length := by
  unfold tlen
  induction ns with
  | nil => exact Nat.le_refl _
  | cons i ns ih =>
    have h1 := ih fun j hj => h j (List.mem_cons_of_mem _ hj)
    have h2 := h i List.mem_cons_self
    have h3 := strI_len h2.1 h2.2
    rw [List.map_cons, List.map_cons, List.sum_cons, List.length_cons]
    omega
theorem tsp_len : tsp.length = 1 := by decide +kernel
end Ho

set_option Elab.async false
set_option linter.all false
set_option maxRecDepth 100000
namespace Ho
open PySem PySem.Spec PySem.Calls PyProof.Rows L2 LamX NdefX Ed
open Ed.Enc (enc)
/-- a thing of this type -/
def IsTy (K : PySem.W.Frag) (t : String) : Rp := fun G v => ∀ H, Ex G H → TyX K H v (.type t)
theorem isTy_ex {K : PySem.W.Frag} {t : String} : Mono (IsTy K t) := ⟨fun e h H e2 => h H (e.trans e2)⟩
instance {K : PySem.W.Frag} {t : String} : MonoC (IsTy K t) := ⟨isTy_ex⟩
def srtI (r : List Int) : List Int := r.mergeSort fun a b => decide (a ≤ b)
theorem sorted_uniq : ∀ {a b : List Int}, a.Perm b → a.Pairwise (· ≤ ·) → b.Pairwise (· ≤ ·) → a = b
  | [], b, p, _, _ => by
    have := p.length_eq
    cases b with
    | nil => rfl
    | cons y b => cases this
  | x :: a, [], p, _, _ => by
    have := p.length_eq
    cases this
  | x :: a, y :: b, p, h1, h2 => by
    have x1 : x ∈ y :: b := p.mem_iff.mp List.mem_cons_self
    have y1 : y ∈ x :: a := p.mem_iff.mpr List.mem_cons_self
    have g1 := List.pairwise_cons.mp h1
    have g2 := List.pairwise_cons.mp h2
    have e : x = y := by
      rcases List.mem_cons.mp x1 with e | e
      · exact e
      · rcases List.mem_cons.mp y1 with e' | e'
        · exact e'.symm
        · have := g1.1 y e'
          have := g2.1 x e
          omega
    subst e
    rw [sorted_uniq (List.Perm.cons_inv p) g1.2 g2.2]
theorem srtI_perm (r : List Int) : (srtI r).Perm r := List.mergeSort_perm _ _
theorem srtI_pw (r : List Int) : (srtI r).Pairwise (· ≤ ·) := by
  have pw := List.pairwise_mergeSort (le := fun a b : Int => decide (a ≤ b)) (fun a b c p q => decide_eq_true (by
    have := of_decide_eq_true p
    have := of_decide_eq_true q
    omega)) (fun a b => by
    rw [Bool.or_eq_true, decide_eq_true_iff, decide_eq_true_iff]
    omega) r
  exact pw.imp fun h => of_decide_eq_true h
section
variable {T : Tbs} {K : PySem.W.Frag} {σ : L2.St} {G0 H0 F G H : Hp} {Γ Γ' : List Sl} {te ta tb : TE}
theorem en_sortI {r : List Int} (hn : r.length < 64) (h : Ev T te σ G r) : EvN T (tCB (rSorted K) (tCons te tNil)) σ G (srtI r) := fun H k Q q => h H k _ fun v G1 H1 n1 r1 => by
  have r1 : Dq G1 v (.list (r.map PyData.int)) := r1
  cases r1 with
  | @lst a vs _ h1 h2 =>
    have hv := da_ints_eq h2
    subst hv
    refine ⟨a, r, rfl, .inl (.inl (n1.kn.le _ _ h1)), hn, fun ns' p hp hs hf => ?_⟩
    rw [sorted_uniq (hp.trans (srtI_perm r).symm) hs (srtI_pw r)]
    exact q p _ G1 _ (n1.trans (Nx.fresh n1.kn hf)) (n1.dom p hf) (n1.kn.none hf) upd_same (da_ints _)
end
/-- of any list of numbers, or of None -/
def isRO : Option (List Int) → Bool
  | none => false
  | some r => (decide (1 ≤ (r.length : Int)) && decide ((r.length : Int) ≤ 12)) && decide (srtI r = Sw.rngI 1 ((r.length : Int) + 1))
end Ho

set_option Elab.async false
set_option linter.all false
set_option maxRecDepth 100000
namespace Ho
open PySem PySem.Spec PySem.Calls PyProof.Rows L2 LamX NdefX Ed
open Ed.Enc (enc)
section
variable {T : Tbs} {K : PySem.W.Frag} {σ : L2.St} {G0 H0 F G H : Hp} {Γ Γ' : List Sl} {te ta tb : TE} {t : TT} {Q : VK} {ds : List PyData} {α : Type} [Enc α]
abbrev rTupOf (K : PySem.W.Frag) : List V → Hp → VK → Prop := fun xs H Q => ∃ p ys, xs = [.ref p] ∧ ((SqL K H p ys ∧ ∀ l, H l = none → Q (.ref l) (upd H l (.tup ys))) ∨ (SqT K H p ys ∧ Q (.ref p) H))
theorem call_tupK {X : Cx} (h : X.K = K) : CallR X (.type "tuple") (rTupOf K) := h ▸ call_tuple_of
theorem ev_tupOf (ha : EvR T ta σ G (IsD (.list ds))) : EvR T (tCB (rTupOf K) (tCons ta tNil)) σ G (IsD (.tuple ds)) := fun H k Q q =>
  ha H k _ fun v G1 H1 n1 r1 => by
    have r1 : Dq G1 v (.list ds) := r1
    cases r1 with
    | @lst a vs _ h1 h2 =>
      refine ⟨a, vs, rfl, .inl ⟨.inl (.inl (n1.kn.le _ _ h1)), fun l hl => ?_⟩⟩
      have n2 := Nx.new (o := .tup vs) n1.kn hl fun ps z => by cases z
      exact q _ _ _ (n1.trans n2) (.tup upd_same (da_ex (Ex.new (n1.kn.none hl)) h2))
theorem en_ifT {xs : List α} (h : EvT T t σ G true) (ha : EvN T ta σ G xs) : EvN T (tIf t ta tb) σ G xs := fun H k Q q => h H k _ fun G2 H2 n => iteT ((ha.mono n.ex) H2 n.kn Q fun p vs G3 H3 n3 h0 hG hp r => q p vs G3 H3 (n.trans n3) (n.dom p h0) hG hp r)
theorem x_if {b : Bool} (s : Sat T G0 H0 F Γ σ G H) (h : ∀ {G}, SatI (Γ.map fz) σ G → EvT T t σ G b) (h1 : b = true → ∀ G H, Sat T G0 H0 F Γ σ G H → ta σ H Q) (h2 : b = false → ∀ G H, Sat T G0 H0 F Γ σ G H → tb σ H Q) : tIf t ta tb σ H Q :=
  h s.fzI H s.fz_kn _ fun G2 H2 n => by
    cases b with
    | true => exact iteT (h1 rfl _ _ (s.thaw n))
    | false => exact iteF (h2 rfl _ _ (s.thaw n))
end
end Ho

set_option linter.all false
set_option maxRecDepth 100000
namespace Ho
open PySem PySem.Spec PySem.Calls PyProof.Rows L2 LamX NdefX Ed
theorem glued_list (y : Str) (p : Str) (ps : List Str) : (Builtin.Str.glued y (p :: ps)).cps.toList = p.cps.toList ++ ps.flatMap fun q => y.cps.toList ++ q.cps.toList := by
  unfold Builtin.Str.glued
  show (ps.foldl (fun acc p => acc ++ y.cps ++ p.cps) p.cps).toList = _
  generalize p.cps = a
  induction ps generalizing a with
  | nil => simp
  | cons q ps ih =>
    rw [List.foldl_cons, ih, List.flatMap_cons]
    simp
theorem join_one (y p : Str) : Txt.join y [p] = p := rfl
theorem split_join (t : Str) : Txt.join tsp (Txt.split t tsp) = t := by
  unfold Txt.split
  split
  · rfl
  · split
    · rfl
    · exact PySem.StrLaws.glued_between_self _ _ _
theorem split_cons (t : Str) : ∃ p ps, Txt.split t tsp = p :: ps := by
  cases e : Txt.split t tsp with
  | cons p ps => exact ⟨p, ps, rfl⟩
  | nil =>
    have l : (Txt.split t tsp).length = 0 := by rw [e]; rfl
    unfold Txt.split at l
    split at l
    · cases l
    · split at l
      · cases l
      · rw [PySem.length_partsBetween] at l
        cases l
/-- how many blanks -/
def c32 (s : Str) : Nat := s.cps.toList.count 32
theorem split_list (t : Str) : ∃ p ps, Txt.split t tsp = p :: ps ∧ t.cps.toList = p.cps.toList ++ ps.flatMap fun q => 32 :: q.cps.toList := by
  obtain ⟨p, ps, e⟩ := split_cons t
  refine ⟨p, ps, e, ?_⟩
  have z := split_join t
  rw [e] at z
  have g := glued_list tsp p ps
  have z2 : Builtin.Str.glued tsp (p :: ps) = t := z
  rw [z2] at g
  rw [g]
  have h : tsp.cps.toList = [32] := by decide +kernel
  rw [h]
  rfl
theorem split_count (t : Str) : (Txt.split t tsp).length ≤ c32 t + 1 := by
  obtain ⟨p, ps, e, h⟩ := split_list t
  rw [e]
  unfold c32
  rw [h, List.count_append]
  have key : ∀ ps : List Str, ps.length ≤ (ps.flatMap fun q => 32 :: q.cps.toList).count 32 := by
    intro ps
    induction ps with
    | nil => simp
    | cons q ps ih =>
      rw [List.flatMap_cons, List.count_append, List.count_cons]
      simp
      omega
  have := key ps
  rw [List.length_cons]
  omega
theorem str_len (s : Str) : s.length = s.cps.toList.length := by
  show s.cps.size = _
  simp
theorem split_tlen (t : Str) : tlen (Txt.split t tsp) + (Txt.split t tsp).length = t.length + 1 := by
  obtain ⟨p, ps, e, h⟩ := split_list t
  rw [e, str_len t, h, List.length_append]
  have key : ∀ ps : List Str, (ps.flatMap fun q => 32 :: q.cps.toList).length = tlen ps + ps.length := by
    intro ps
    induction ps with
    | nil => rfl
    | cons q ps ih =>
      rw [List.flatMap_cons, List.length_append, ih]
      show (32 :: q.cps.toList).length + _ = (q.length + tlen ps) + (ps.length + 1)
      rw [List.length_cons, ← str_len]
      omega
  rw [key]
  show (p.length + tlen ps) + (ps.length + 1) = p.cps.toList.length + (tlen ps + ps.length) + 1
  rw [← str_len]
  omega
end Ho

set_option linter.all false
set_option maxRecDepth 100000
namespace Ho
open PySem PySem.Spec PySem.Calls PyProof.Rows L2 LamX NdefX Ed
def nums (t : Str) : List Int := (Txt.split t tsp).map fun w => (look (knd 12) w).getD 0
def allK (t : Str) : Bool := ((Txt.split t tsp).map fun s => (look (knd 12) s).isSome).all id
theorem all_iff {ws : List Str} {f : Str → Bool} : (ws.map f).all id = true ↔ ∀ w ∈ ws, f w = true := by
  rw [List.all_eq_true]
  constructor
  · intro h w hw
    exact h _ (List.mem_map.mpr ⟨w, hw, rfl⟩)
  · intro h b hb
    obtain ⟨w, hw, rfl⟩ := List.mem_map.mp hb
    exact h w hw
theorem rdf_lt {t : Str} {m : Int} (hm : m ≤ 12) : rdf t m = if allK t = true ∧ ∀ i ∈ nums t, i ≤ m then some (nums t) else none := by
  unfold rdf
  by_cases c : allK t = true ∧ ∀ i ∈ nums t, i ≤ m
  · obtain ⟨c1, c2⟩ := c
    have c1' := all_iff.mp c1
    have same : ∀ w ∈ Txt.split t tsp, look (knd m) w = look (knd 12) w := fun w hw => by
      obtain ⟨i, hi⟩ := Option.isSome_iff_exists.mp (c1' w hw)
      obtain ⟨⟨a, b⟩, e⟩ := (look_knd (by decide)).mp hi
      have hin : i ∈ nums t := List.mem_map.mpr ⟨w, hw, by rw [hi]; rfl⟩
      rw [hi]
      exact (look_knd (by omega)).mpr ⟨⟨a, c2 i hin⟩, e⟩
    rw [if_pos (⟨c1, c2⟩ : allK t = true ∧ ∀ i ∈ nums t, i ≤ m), if_pos]
    · congr 1
      exact List.map_congr_left fun w hw => by rw [same w hw]
    · exact all_iff.mpr fun w hw => by
        rw [same w hw]
        exact c1' w hw
  · rw [if_neg c, if_neg]
    intro h
    have h' := all_iff.mp h
    have up : ∀ w ∈ Txt.split t tsp, ∃ i, look (knd 12) w = some i ∧ i ≤ m := fun w hw => by
      obtain ⟨i, hi⟩ := Option.isSome_iff_exists.mp (h' w hw)
      obtain ⟨⟨a, b⟩, e⟩ := (look_knd (by omega)).mp hi
      exact ⟨i, (look_knd (by decide)).mpr ⟨⟨a, by omega⟩, e⟩, b⟩
    refine c ⟨all_iff.mpr fun w hw => ?_, fun i hi => ?_⟩
    · obtain ⟨i, hi, _⟩ := up w hw
      rw [hi]
      rfl
    · obtain ⟨w, hw, e⟩ := List.mem_map.mp hi
      obtain ⟨k, hk, hkm⟩ := up w hw
      rw [hk] at e
      have e : k = i := e
      omega
theorem nums_le {t : Str} (h : allK t = true) : ∀ i ∈ nums t, 1 ≤ i ∧ i ≤ 12 := fun i hi => by
  obtain ⟨w, hw, e⟩ := List.mem_map.mp hi
  obtain ⟨k, hk⟩ := Option.isSome_iff_exists.mp (all_iff.mp h w hw)
  obtain ⟨⟨a, b⟩, _⟩ := (look_knd (by decide)).mp hk
  rw [hk] at e
  have e : k = i := e
  omega
theorem nums_ne (t : Str) : nums t ≠ [] := by
  obtain ⟨p, ps, e⟩ := split_cons t
  unfold nums
  rw [e]
  intro h
  cases h
/-- the law's look at a row's text -/
theorem row_read {t : Str} (h : allK t = true) : isRO (some (nums t)) = decide (srtI (nums t) = Sw.rngI 1 (((nums t).length : Int) + 1)) := by
  unfold isRO
  dsimp only
  have l1 : 0 < (nums t).length := List.length_pos_iff.mpr (nums_ne t)
  by_cases c : srtI (nums t) = Sw.rngI 1 (((nums t).length : Int) + 1)
  · have l2 : ((nums t).length : Int) ≤ 12 := by
      have hm : ((nums t).length : Int) ∈ Sw.rngI 1 (((nums t).length : Int) + 1) := Sw.mem_rngI.mpr (by omega)
      rw [← c] at hm
      exact (nums_le h _ ((srtI_perm _).mem_iff.mp hm)).2
    rw [decide_eq_true c, decide_eq_true l2, decide_eq_true (show (1 : Int) ≤ ((nums t).length : Int) by omega)]
    rfl
  · rw [decide_eq_false c, Bool.and_false]
end Ho

set_option Elab.async false
set_option linter.all false
set_option maxRecDepth 100000
namespace Ho
open PySem PySem.Spec PySem.Calls PyProof.Rows L2 LamX NdefX Ed
open Ed.Enc (enc)
theorem split_sub {t w : Str} (h : w ∈ Txt.split t tsp) : ∀ c ∈ w.cps.toList, c ∈ t.cps.toList := fun c hc => by
  obtain ⟨p, ps, e, hl⟩ := split_list t
  rw [e] at h
  rw [hl]
  rcases List.mem_cons.mp h with z | z
  · subst z
    exact List.mem_append.mpr (.inl hc)
  · exact List.mem_append.mpr (.inr (List.mem_flatMap.mpr ⟨w, z, List.mem_cons_of_mem _ hc⟩))
theorem ok_iff {s : Str} : PyData.strOk s = true ↔ ∀ c ∈ s.cps.toList, c < 0x110000 := by
  show (s.cps.all (· < 0x110000)) = true ↔ _
  rw [← Array.all_toList, List.all_eq_true]
  simp
theorem split_ok (t : OkS) {w : Str} (h : w ∈ Txt.split t.s tsp) : PyData.strOk w = true := ok_iff.mpr fun c hc => ok_iff.mp t.ok c (split_sub h c hc)
def splitO (t : OkS) : List OkS := (Txt.split t.s tsp).attach.map fun w => ⟨w.1, split_ok t w.2⟩
theorem splitO_s (t : OkS) : (splitO t).map (·.s) = Txt.split t.s tsp := by
  unfold splitO
  rw [List.map_map]
  exact List.attach_map_subtype_val _
theorem enc_tls (ys : List OkS) : ys.map enc = tls (ys.map (·.s)) := by
  unfold tls
  rw [List.map_map]
  rfl
theorem strI_ok {i : Int} (h0 : 0 ≤ i) (h1 : i ≤ 13) : PyData.strOk (strI i) = true := by
  have key : ∀ n : Fin 14, PyData.strOk (strI ((n.val : Nat) : Int)) = true := by decide +kernel
  have z := key ⟨i.toNat, by omega⟩
  have e : ((i.toNat : Nat) : Int) = i := Int.toNat_of_nonneg h0
  rw [← e]
  exact z
theorem int_strI {i : Int} (h0 : 0 ≤ i) (h1 : i ≤ 13) : intText? (strI i) = some i := by
  have key : ∀ n : Fin 14, intText? (strI ((n.val : Nat) : Int)) = some ((n.val : Nat) : Int) := by decide +kernel
  have z := key ⟨i.toNat, by omega⟩
  have e : ((i.toNat : Nat) : Int) = i := Int.toNat_of_nonneg h0
  have z : intText? (strI ((i.toNat : Nat) : Int)) = some ((i.toNat : Nat) : Int) := z
  rw [e] at z
  exact z
def strO (i : Int) : OkS := if h : PyData.strOk (strI i) = true then ⟨strI i, h⟩ else ⟨tsp, by decide +kernel⟩
theorem strO_s {i : Int} (h0 : 0 ≤ i) (h1 : i ≤ 13) : (strO i).s = strI i := by
  unfold strO
  rw [dif_pos (strI_ok h0 h1)]
theorem cr_maxK {X : Cx} {K : PySem.W.Frag} (h : X.K = K) (hc : X.calm = true) : CallR X (.builtin "max") (rMax K) := h ▸ cr_max hc
section
variable {T : Tbs} {K : PySem.W.Frag} {σ : L2.St} {G0 H0 F G H : Hp} {te ta tb : TE}
theorem ev_maxL {xs : List Int} {m : Int} (ha : Ev T ta σ G xs) (h0 : xs ≠ []) (h1 : m ∈ xs) (h2 : ∀ y ∈ xs, y ≤ m) : Ev T (tCB (rMax K) (tCons ta tNil)) σ G m := fun H k Q q =>
  ha H k _ fun v G1 H1 n1 r1 => by
    have r1 : Dq G1 v (.list (xs.map PyData.int)) := r1
    cases r1 with
    | @lst a vs _ g1 g2 =>
      have hv := da_ints_eq g2
      subst hv
      refine ⟨a, xs, rfl, .inl (.inl (n1.kn.le _ _ g1)), List.length_pos_iff.mpr h0, fun m' hm hy => ?_⟩
      have e : m' = m := Int.le_antisymm (h2 m' hm) (hy m h1)
      rw [e]
      exact q _ G1 H1 n1 (.int m)
theorem ev_intS {s : Str} {n : Int} (ha : EvR T ta σ G (IsT' s)) (h : intText? s = some n) (hl : s.length ≤ 640) : Ev T (tCB (fun xs H Q => ∃ a n, xs = [V.str a] ∧ PySem.intText? a = some n ∧ a.length ≤ 640 ∧ Q (.int n) H) (tCons ta tNil)) σ G n := fun H k Q q =>
  ha H k _ fun v G1 H1 n1 r1 => by
    rw [dq_str r1]
    exact ⟨s, n, rfl, h, hl, q _ G1 H1 n1 (.int n)⟩
end
end Ho

set_option linter.all false
set_option maxRecDepth 100000
namespace Ho
open PySem PySem.Spec PySem.Calls PyProof.Rows L2 LamX NdefX Ed
def t32 (ws : List Str) : Nat := (ws.map c32).sum
/-- bounds of a text: length, blanks; its signs are signs -/
structure Bd (L C : Nat) (s : Str) : Prop where
  len : s.length ≤ L
  cnt : c32 s ≤ C
  ok : PyData.strOk s = true
theorem app_list (a b : Str) : (a ++ b).cps.toList = a.cps.toList ++ b.cps.toList := by
  show (a.cps ++ b.cps).toList = _
  simp
theorem Bd.app {L C L' C' : Nat} {a b : Str} (h : Bd L C a) (g : Bd L' C' b) : Bd (L + L') (C + C') (a ++ b) := ⟨by
  have h1 := h.len
  have g1 := g.len
  rw [str_len] at h1 g1 ⊢
  rw [app_list, List.length_append]
  omega, by
  have h1 := h.cnt
  have g1 := g.cnt
  unfold c32 at h1 g1 ⊢
  rw [app_list, List.count_append]
  omega, ok_iff.mpr fun c hc => by
  rw [app_list] at hc
  rcases List.mem_append.mp hc with z | z
  · exact ok_iff.mp h.ok c z
  · exact ok_iff.mp g.ok c z⟩
theorem Bd.mono {L C L' C' : Nat} {a : Str} (h : Bd L C a) (l : L ≤ L') (c : C ≤ C') : Bd L' C' a := ⟨Nat.le_trans h.len l, Nat.le_trans h.cnt c, h.ok⟩
theorem Bd.cut {L C : Nat} {a : Str} (h : Bd L C a) (lo hi : Option Int) : Bd L C (cutS a lo hi) := by
  have e : ∃ i j, (cutS a lo hi).cps.toList = (a.cps.toList.drop i).take j := by
    exact ⟨HT.sIx a.length 0 lo, HT.sIx a.length a.length hi - HT.sIx a.length 0 lo, by unfold cutS; simp⟩
  obtain ⟨i, j, e⟩ := e
  have sub : ((a.cps.toList.drop i).take j).Sublist a.cps.toList := (List.take_sublist _ _).trans (List.drop_sublist _ _)
  refine ⟨?_, ?_, ok_iff.mpr fun c hc => ?_⟩
  · have h1 := h.len
    rw [str_len] at h1 ⊢
    rw [e]
    exact Nat.le_trans sub.length_le h1
  · have h1 := h.cnt
    unfold c32 at h1 ⊢
    rw [e]
    exact Nat.le_trans (sub.count_le _) h1
  · rw [e] at hc
    exact ok_iff.mp h.ok c (sub.mem hc)
theorem join_list (p : Str) (ps : List Str) : (Txt.join tsp (p :: ps)).cps.toList = p.cps.toList ++ ps.flatMap fun q => 32 :: q.cps.toList := by
  have g := glued_list tsp p ps
  have h : tsp.cps.toList = [32] := by decide +kernel
  rw [h] at g
  exact g
theorem flat_len : ∀ ps : List Str, (ps.flatMap fun q => 32 :: q.cps.toList).length = tlen ps + ps.length
  | [] => rfl
  | q :: ps => by
    rw [List.flatMap_cons, List.length_append, flat_len ps]
    show (32 :: q.cps.toList).length + _ = (q.length + tlen ps) + (ps.length + 1)
    rw [List.length_cons, ← str_len]
    omega
theorem flat_cnt : ∀ ps : List Str, (ps.flatMap fun q => 32 :: q.cps.toList).count 32 = t32 ps + ps.length
  | [] => rfl
  | q :: ps => by
    rw [List.flatMap_cons, List.count_append, flat_cnt ps, List.count_cons]
    show List.count 32 q.cps.toList + _ + _ = (c32 q + t32 ps) + (ps.length + 1)
    unfold c32
    simp
    omega
theorem Bd.join {L C : Nat} {ws : List Str} (hl : tlen ws + ws.length ≤ L) (hc : t32 ws + ws.length ≤ C) (ho : ∀ w ∈ ws, PyData.strOk w = true) : Bd L C (Txt.join tsp ws) := by
  cases ws with
  | nil => exact ⟨Nat.zero_le _, Nat.zero_le _, by decide +kernel⟩
  | cons p ps =>
    have hl : (p.length + tlen ps) + (ps.length + 1) ≤ L := hl
    have hc : (c32 p + t32 ps) + (ps.length + 1) ≤ C := hc
    refine ⟨?_, ?_, ok_iff.mpr fun c h => ?_⟩
    · rw [str_len, join_list, List.length_append, flat_len, ← str_len]
      omega
    · unfold c32 at hc ⊢
      rw [join_list, List.count_append, flat_cnt]
      omega
    · rw [join_list] at h
      rcases List.mem_append.mp h with z | z
      · exact ok_iff.mp (ho p List.mem_cons_self) c z
      · obtain ⟨q, hq, hc'⟩ := List.mem_flatMap.mp z
        rcases List.mem_cons.mp hc' with y | y
        · subst y
          decide
        · exact ok_iff.mp (ho q (List.mem_cons_of_mem _ hq)) c y
/-- what split leaves -/
theorem split_t32 (t : Str) : t32 (Txt.split t tsp) + (Txt.split t tsp).length = c32 t + 1 := by
  obtain ⟨p, ps, e, h⟩ := split_list t
  rw [e]
  unfold c32
  rw [h, List.count_append, flat_cnt]
  show (c32 p + t32 ps) + (ps.length + 1) = _
  unfold c32
  omega
theorem tlen_app (a b : List Str) : tlen (a ++ b) = tlen a + tlen b := by
  unfold tlen
  rw [List.map_append, List.sum_append]
theorem t32_app (a b : List Str) : t32 (a ++ b) = t32 a + t32 b := by
  unfold t32
  rw [List.map_append, List.sum_append]
theorem tlen_cut (ws : List Str) (i : Nat) : tlen (ws.take i) ≤ tlen ws ∧ tlen (ws.drop i) ≤ tlen ws ∧ t32 (ws.take i) ≤ t32 ws ∧ t32 (ws.drop i) ≤ t32 ws := by
  have e1 := tlen_app (ws.take i) (ws.drop i)
  have e2 := t32_app (ws.take i) (ws.drop i)
  rw [List.take_append_drop] at e1 e2
  omega
/-- words with some left out, told twice, exchanged -/
theorem Bd.words {L C : Nat} {t : Str} (h : Bd L C t) (a b : Nat) {mid : List Str} (ml : tlen mid ≤ 2) (mn : mid.length ≤ 1) (mc : t32 mid = 0) (mo : ∀ w ∈ mid, PyData.strOk w = true) : Bd (2 * L + 5) (2 * C + 4) (Txt.join tsp ((Txt.split t tsp).take a ++ mid ++ (Txt.split t tsp).drop b)) := by
  have s1 := split_tlen t
  have s2 := split_t32 t
  have hl := h.len
  have hc := h.cnt
  have c1 := tlen_cut (Txt.split t tsp) a
  have c2 := tlen_cut (Txt.split t tsp) b
  refine Bd.join ?_ ?_ fun w hw => ?_
  · rw [tlen_app, tlen_app, List.length_append, List.length_append, List.length_take, List.length_drop]
    omega
  · rw [t32_app, t32_app, List.length_append, List.length_append, List.length_take, List.length_drop]
    omega
  · rcases List.mem_append.mp hw with z | z
    · rcases List.mem_append.mp z with y | y
      · exact split_ok ⟨t, h.ok⟩ (List.mem_of_mem_take y)
      · exact mo w y
    · exact split_ok ⟨t, h.ok⟩ (List.mem_of_mem_drop z)
end Ho

set_option Elab.async false
set_option linter.all false
set_option maxRecDepth 100000
namespace Ho
open PySem PySem.Spec PySem.Calls PyProof.Rows L2 LamX NdefX Ed
open Ed.Enc (enc)
section
variable {T : Tbs} {K : PySem.W.Frag} {σ : L2.St} {G0 H0 F G H : Hp} {te ta tb : TE} {x y : Str} {R : Rp}
theorem pe_orTK {X : Cx} {K : PySem.W.Frag} {a b : Expr} {rest : List Expr} {pos : Pos} (h : X.K = K) (ha : PE X a ta) (hb : PE X (.BoolOp .Or (b :: rest) pos) tb) : PE X (.BoolOp .Or (a :: b :: rest) pos) (tOrT K ta tb) := h ▸ pe_orT ha hb
theorem ev_orS (ha : EvR T ta σ G (IsT' x)) (hb : EvR T tb σ G (IsT' y)) (hz : x.length ≤ 16777216) : EvR T (tOrT K ta tb) σ G (IsT' (if x.length = 0 then y else x)) := fun H k Q q =>
  ha H k _ fun v G1 H1 n1 r1 => by
    rw [dq_str r1]
    refine ⟨((x.length : Int) != 0), ⟨by rw [sizeLine_eq]; exact hz, rfl⟩, ?_⟩
    by_cases c : x.length = 0
    · have e : ((x.length : Int) != 0) = false := by
        rw [c]
        rfl
      rw [e, if_pos c] at *
      refine iteF (EvR.mono isD_ex hb n1.ex H1 n1.kn _ fun w G2 H2 n2 r2 => q w G2 H2 (n1.trans n2) r2)
    · have e : ((x.length : Int) != 0) = true := by
        simp
        omega
      rw [e, if_neg c] at *
      exact iteT (q _ G1 H1 n1 (.str x))
theorem ty_of {v : V} {G' H' : Hp} {t : String} (h : TyOf K H' v (.type t)) : TyX K H' v (.type t) := .base h
theorem isTy_non : IsTy K "NoneType" G .non := fun H e => .base .non
theorem isTy_int {i : Int} : IsTy K "int" G (.int i) := fun H e => .base (.int i)
theorem isTy_bl {b : Bool} : IsTy K "bool" G (.bl b) := fun H e => .base (.bl b)
/-- the type of a known value -/
theorem ev_ty {t : String} (h : EvR T ta σ G R) (ht : ∀ v G' H', Ex G' H' → R G' v → TyX K H' v (.type t)) : EvR T ta σ G (IsTy K t) := fun H k Q q => h H k Q fun v G2 H2 n r => q v G2 H2 n fun H e => ht v G2 H e r
theorem ev_dict0 : EvR T tDNewK σ G (IsTy K "dict") := fun H k Q q => fun p hp => by
  have n := Nx.new (o := .dK []) k hp fun ps z => by cases z
  exact q _ _ _ n fun H2 e => .base (.dK (e _ _ upd_same))
/-- [a, b, ..][i] -/
theorem ev_pick {Rs : List Rp} {i : Int} (ms : MonoA Rs) (ha : EvA T ta' σ G Rs) (hb : Ev T tb σ G i) (hz : Rs.length ≤ 1000) (h0 : 0 ≤ i) (h : Rs[i.toNat]? = some R) : EvR T (tOp (rIxL K) (tLst ta') tb) σ G R := fun H k Q q =>
  ha H k _ fun vs G1 H1 n1 r1 => by
    have hl := allR_len r1
    refine ⟨by rw [hl]; exact Nat.le_trans hz (by decide), fun p hp => ?_⟩
    have n2 := Nx.new (o := .lst vs) n1.kn hp fun ps z => by cases z
    refine EvR.mono isD_ex hb (n1.ex.trans n2.ex) _ n2.kn _ fun w G3 H3 n3 r3 => ?_
    rw [dq_int r3]
    obtain ⟨u, hu, ru⟩ := allR_get r1 i.toNat R h
    refine ⟨p, vs, i, u, rfl, rfl, .inl (.inl (n3.kn.le _ _ (n3.ex _ _ upd_same))), atI_nn h0 hu, q u G3 H3 ((n1.trans n2).trans n3) ((monoA_get ms i.toNat R h).ex (n2.ex.trans n3.ex) ru)⟩
end
end Ho

set_option Elab.async false
set_option linter.all false
set_option maxRecDepth 100000
namespace Sx
open PySem PySem.Spec PyProof.Rows L2
def Rd (m : Nat) : Prop := ∀ i, i ≤ m → ∀ j, j ≤ m → ∃ k, k ≤ m ∧ lcgI m i k = j
def orb (m : Nat) : Nat → Nat → List Nat
  | 0, _ => []
  | n + 1, x => x :: orb m n ((x * 5 + 1) % (m + 1))
theorem orb_mem (m : Nat) : ∀ (n a j : Nat), j ∈ orb m n (lcgN m a) → ∃ b, b < n ∧ lcgN m (a + b) = j
  | 0, _, _, h => by cases h
  | n + 1, a, j, h => by
    rcases List.mem_cons.mp h with e | h
    · exact ⟨0, Nat.succ_pos _, e.symm⟩
    · obtain ⟨b, hb, e⟩ := orb_mem m n (a + 1) j h
      exact ⟨b + 1, by omega, by rw [← e]; congr 1; omega⟩
def obits (m : Nat) : Nat → Nat → Nat → Nat
  | 0, _, acc => acc
  | n + 1, x, acc => obits m n ((x * 5 + 1) % (m + 1)) (acc ||| 2 ^ x)
theorem obits_mem (m : Nat) (j : Nat) : ∀ (n x acc : Nat), (obits m n x acc).testBit j = true → acc.testBit j = true ∨ j ∈ orb m n x
  | 0, _, _, h => .inl h
  | n + 1, x, acc, h => by
    rcases obits_mem m j n _ _ h with z | z
    · rw [Nat.testBit_or, Bool.or_eq_true, Nat.testBit_two_pow, decide_eq_true_iff] at z
      rcases z with z | z
      · exact .inl z
      · exact .inr (by rw [← z]; exact List.mem_cons_self)
    · exact .inr (List.mem_cons_of_mem _ z)
theorem rd_of {m : Nat} (h1 : obits m (m + 1) 0 0 = 2 ^ (m + 1) - 1) (h2 : lcgN m (m + 1) = 0) : Rd m := by
  have all : ∀ j, j ≤ m → ∃ b, b ≤ m ∧ lcgN m b = j := fun j hj => by
    have z : (obits m (m + 1) 0 0).testBit j = true := by
      rw [h1, Nat.testBit_two_pow_sub_one, decide_eq_true_iff]
      omega
    have z := (obits_mem m j _ _ _ z).resolve_left (by rw [Nat.zero_testBit]; decide)
    obtain ⟨b, hb, e⟩ := orb_mem m (m + 1) 0 j z
    exact ⟨b, by omega, by rw [← e, Nat.zero_add]⟩
  have rnd : ∀ k, lcgN m (m + 1 + k) = lcgN m k := fun k => by
    induction k with
    | zero => exact h2
    | succ k ih =>
      show (lcgN m (m + 1 + k) * 5 + 1) % (m + 1) = (lcgN m k * 5 + 1) % (m + 1)
      rw [ih]
  intro i hi j hj
  obtain ⟨a, ha, rfl⟩ := all i hi
  obtain ⟨b, hb, rfl⟩ := all j hj
  by_cases c : a ≤ b
  · exact ⟨b - a, by omega, by rw [lcgN_add, Nat.add_sub_cancel' c]⟩
  · refine ⟨b + (m + 1) - a, by omega, ?_⟩
    rw [lcgN_add, show a + (b + (m + 1) - a) = m + 1 + b by omega, rnd]
def Mk (m : Nat) : Prop := m = 7 ∨ m = 15 ∨ m = 31 ∨ m = 63 ∨ m = 127 ∨ m = 255 ∨ m = 511
instance {m : Nat} : Decidable (Mk m) := by
  unfold Mk
  infer_instance
theorem rd_mk {m : Nat} (h : Mk m) : Rd m := by
  rcases h with e | e | e | e | e | e | e <;> subst e <;> exact rd_of (by decide +kernel) (by decide +kernel)
theorem mk_le {m : Nat} (h : Mk m) : m ≤ 511 := by
  unfold Mk at h
  omega
theorem mk_odd {m : Nat} (h : Mk m) : m % 2 = 1 := by
  unfold Mk at h
  omega
theorem meets {m : Nat} (hm : Rd m) (h : Int) {j : Nat} (hj : j ≤ m) : ∃ n, n ≤ m + 12 ∧ runI m (SetTable.bits h) n = j := by
  obtain ⟨k, hk, e⟩ := hm _ (runI_le m (SetTable.bits h) 12) j hj
  exact ⟨12 + k, by omega, by rw [runI_tail (bits_lt h)]; exact e⟩
theorem meets_way {m : Nat} (hm : Rd m) (h : Int) {j : Nat} (hj : j ≤ m) : ∃ k, k < 10 * SetTable.turns m ∧ way m h k = j := by
  obtain ⟨n, hn, e⟩ := meets hm h hj
  obtain ⟨k, hk, e2⟩ := run_nth m (SetTable.bits h) n
  refine ⟨k, by unfold SetTable.turns; omega, ?_⟩
  show (nth m (runAt m (SetTable.bits h % (m + 1)) (SetTable.bits h)) k).j = j
  rw [e2]
  exact e
theorem way_in {m : Nat} {h : Int} {k : Nat} : way m h k ≤ m := by
  have hi : SetTable.bits h % (m + 1) ≤ m := Nat.le_of_lt_succ (Nat.mod_lt _ (Nat.succ_pos _))
  have b := runEnd_bd hi
  have z := nth_in (m := m) k (runAt m (SetTable.bits h % (m + 1)) (SetTable.bits h)) (by
    unfold runAt
    dsimp only
    omega)
  exact Nat.le_trans (Nat.le_add_right _ _) z
/-- the first free slot on the way -/
theorem first_free {m : Nat} (hm : Rd m) (U : List Nat) (hl : U.length ≤ m) (h : Int) : ∃ K, K < 10 * SetTable.turns m ∧ way m h K ∉ U ∧ ∀ k, k < K → way m h k ∈ U := by
  obtain ⟨j, hj, hn⟩ := st_missing U (m + 1) (by omega)
  obtain ⟨k, hk, e⟩ := meets_way hm h (Nat.le_of_lt_succ hj)
  obtain ⟨K, a, b, c⟩ := st_least (p := fun k => way m h k ∉ U) k (by rw [e]; exact hn)
  exact ⟨K, Nat.lt_of_le_of_lt a hk, b, fun k hk => Classical.byContradiction fun z => c k hk z⟩
theorem has_iff {xs : Array Nat} (r : Ris xs.toList) {j : Nat} : SetTable.has xs j = true ↔ xs.toList[SetTable.below xs j]? = some j := by
  unfold SetTable.has
  rw [beq_iff_eq, Array.getElem?_toList]
theorem below_at {xs : Array Nat} (r : Ris xs.toList) {j : Nat} : xs.toList[SetTable.below xs j]? = some j ↔ j ∈ xs.toList := by
  constructor
  · exact fun h => List.mem_of_getElem? h
  · intro h
    obtain ⟨i, hi⟩ := List.getElem?_of_mem h
    obtain ⟨c1, c2, c3⟩ := below_cut r j
    generalize SetTable.below xs j = p at c1 c2 c3
    rcases Nat.lt_trichotomy i p with a | a | a
    · exact absurd (c2 i j hi a) (Nat.lt_irrefl _)
    · rw [← a]
      exact hi
    · have hp : p < xs.toList.length := Nat.lt_trans a (List.getElem?_eq_some_iff.mp hi).1
      have e := List.getElem?_eq_getElem hp
      have h1 := c3 p _ e (Nat.le_refl _)
      have h2 := ris_lt r e hi a
      omega
theorem ris_nd {l : List Nat} (r : Ris l) : l.Nodup := List.Pairwise.imp (fun h => Nat.ne_of_lt h) r
variable {t : SetTable}
theorem slot_dm (r : Ris t.place.toList) (rd : Ris t.dummies.toList) {j : Nat} (h : j ∉ t.place.toList) (h2 : j ∈ t.dummies.toList) : t.slot j = .dummy := by
  unfold SetTable.slot
  have e : (t.place[SetTable.below t.place j]? == some j) = false := beq_eq_false_iff_ne.mpr fun c => h (List.mem_of_getElem? (by rw [Array.getElem?_toList]; exact c))
  have e2 : SetTable.has t.dummies j = true := (has_iff rd).mpr ((below_at rd).mpr h2)
  simp only [e, e2, Bool.false_eq_true, if_false, if_true]
theorem slot_em (r : Ris t.place.toList) (rd : Ris t.dummies.toList) {j : Nat} (h : j ∉ t.place.toList) (h2 : j ∉ t.dummies.toList) : t.slot j = .empty := by
  unfold SetTable.slot
  have e : (t.place[SetTable.below t.place j]? == some j) = false := beq_eq_false_iff_ne.mpr fun c => h (List.mem_of_getElem? (by rw [Array.getElem?_toList]; exact c))
  have e2 : SetTable.has t.dummies j = false := by
    cases q : SetTable.has t.dummies j with
    | false => rfl
    | true => exact absurd ((below_at rd).mp ((has_iff rd).mp q)) h2
  simp only [e, e2, Bool.false_eq_true, if_false]
def wd (p : SetTable.Probe) (d : Option Nat) : SetTable.Probe := { p with dummy := d }
theorem adv_wd (m : Nat) (p : SetTable.Probe) (d : Option Nat) : adv m (wd p d) = wd (adv m p) d := by
  unfold adv wd
  dsimp only
  split <;> rfl
theorem nth_wd (m : Nat) (d : Option Nat) : ∀ (k : Nat) (p : SetTable.Probe), nth m (wd p d) k = wd (nth m p k) d
  | 0, _ => rfl
  | k + 1, p => by
    show nth m (adv m (wd p d)) k = wd (nth m (adv m p) k) d
    rw [adv_wd, nth_wd m d k]
theorem adv_dm (m : Nat) (p : SetTable.Probe) : (adv m p).dummy = p.dummy := by
  unfold adv
  split <;> rfl
theorem wd_wd (p : SetTable.Probe) (d e : Option Nat) : wd (wd p d) e = wd p e := rfl
theorem wd_self {p : SetTable.Probe} {d : Option Nat} (h : p.dummy = d) : wd p d = p := by
  subst h
  rfl
theorem wd_j (p : SetTable.Probe) (d : Option Nat) : (wd p d).j = p.j := rfl
abbrev Occ (t : SetTable) (j : Nat) : Prop := j ∈ t.place.toList ∨ j ∈ t.dummies.toList
def Dm (t : SetTable) (p : SetTable.Probe) (K : Nat) (d : Option Nat) : Prop := d = p.dummy ∨ ∃ k', k' < K ∧ d = some (nth t.mask p k').j ∧ (nth t.mask p k').j ∈ t.dummies.toList ∧ (nth t.mask p k').j ∉ t.place.toList
theorem go_dm (t : SetTable) (r : Ris t.place.toList) (rd : Ris t.dummies.toList) (hashAt : Nat → Int) (h : Int) : ∀ (f K : Nat) (p : SetTable.Probe), K < f →
    (∀ k, k < K → Occ t (nth t.mask p k).j) → ¬ Occ t (nth t.mask p K).j →
    (∃ k i d, k < K ∧ t.place.toList[i]? = some (nth t.mask p k).j ∧ hashAt i = h ∧ (∀ k' i', k' < k → t.place.toList[i']? = some (nth t.mask p k').j → hashAt i' ≠ h) ∧ Dm t p K d ∧
      SetTable.probe.go t hashAt h f p = some (.candidate (nth t.mask p k).j i (wd (nth t.mask p (k + 1)) d))) ∨
    ((∀ k' i', k' < K → t.place.toList[i']? = some (nth t.mask p k').j → hashAt i' ≠ h) ∧ ∃ d, Dm t p K d ∧ SetTable.probe.go t hashAt h f p = some (.empty (nth t.mask p K).j d))
  | 0, K, p, hK, _, _ => absurd hK (Nat.not_lt_zero _)
  | f + 1, 0, p, _, _, he => by
    refine .inr ⟨fun k' i' hk => absurd hk (Nat.not_lt_zero _), p.dummy, .inl rfl, ?_⟩
    have hs : t.slot p.j = .empty := slot_em r rd (fun z => he (.inl z)) fun z => he (.inr z)
    unfold SetTable.probe.go
    rw [hs]
    rfl
  | f + 1, K + 1, p, hK, hin, he => by
    -- the same from the next place on, p's dummy being e
    have nxt : ∀ (e : Option Nat), (e = p.dummy ∨ e = some p.j ∧ p.j ∈ t.dummies.toList ∧ p.j ∉ t.place.toList) → (∀ i', t.place.toList[i']? = some p.j → hashAt i' ≠ h) → SetTable.probe.go t hashAt h (f + 1) p = SetTable.probe.go t hashAt h f (adv t.mask (wd p e)) →
        (∃ k i d, k < K + 1 ∧ t.place.toList[i]? = some (nth t.mask p k).j ∧ hashAt i = h ∧ (∀ k' i', k' < k → t.place.toList[i']? = some (nth t.mask p k').j → hashAt i' ≠ h) ∧ Dm t p (K + 1) d ∧
          SetTable.probe.go t hashAt h (f + 1) p = some (.candidate (nth t.mask p k).j i (wd (nth t.mask p (k + 1)) d))) ∨
        ((∀ k' i', k' < K + 1 → t.place.toList[i']? = some (nth t.mask p k').j → hashAt i' ≠ h) ∧ ∃ d, Dm t p (K + 1) d ∧ SetTable.probe.go t hashAt h (f + 1) p = some (.empty (nth t.mask p (K + 1)).j d)) := by
      intro e hd one eq
      have sh : ∀ k, nth t.mask (adv t.mask (wd p e)) k = wd (nth t.mask p (k + 1)) e := fun k => by
        have z := nth_wd t.mask e (k + 1) p
        exact z
      have shj : ∀ k, (nth t.mask (adv t.mask (wd p e)) k).j = (nth t.mask p (k + 1)).j := fun k => by rw [sh, wd_j]
      have dm : ∀ d, Dm t (adv t.mask (wd p e)) K d → Dm t p (K + 1) d := by
        rintro d (z | ⟨k', a, b, c, c2⟩)
        · rw [adv_dm] at z
          have z : d = e := z
          subst z
          rcases hd with hd | ⟨hd, h1, h2⟩
          · exact .inl hd
          · exact .inr ⟨0, Nat.succ_pos _, hd, h1, h2⟩
        · rw [shj] at b c c2
          exact .inr ⟨k' + 1, Nat.succ_lt_succ a, b, c, c2⟩
      rcases go_dm t r rd hashAt h f K (adv t.mask (wd p e)) (by omega) (fun k hk => by rw [shj]; exact hin (k + 1) (Nat.succ_lt_succ hk)) (by rw [shj]; exact he) with ⟨k, i, d, a1, a2, a3, a4, a5, a6⟩ | ⟨a1, d, a2, a3⟩
      · refine .inl ⟨k + 1, i, d, Nat.succ_lt_succ a1, by rw [shj] at a2; exact a2, a3, fun k' i' hk hi => ?_, dm d a5, ?_⟩
        · cases k' with
          | zero => exact one i' hi
          | succ k' => exact a4 k' i' (Nat.lt_of_succ_lt_succ hk) (by rw [shj]; exact hi)
        · rw [eq, a6, shj, sh, wd_wd]
      · refine .inr ⟨fun k' i' hk hi => ?_, d, dm d a2, by rw [eq, a3, shj]⟩
        cases k' with
        | zero => exact one i' hi
        | succ k' => exact a1 k' i' (Nat.lt_of_succ_lt_succ hk) (by rw [shj]; exact hi)
    by_cases hp : p.j ∈ t.place.toList
    · obtain ⟨i, hi⟩ := List.getElem?_of_mem hp
      have hs := slot_live r hi
      have same : ∀ i', t.place.toList[i']? = some p.j → i' = i := fun i' hi' => by
        have z := slot_live r hi'
        rw [hs] at z
        injection z with z
        exact z.symm
      by_cases hh : hashAt i = h
      · refine .inl ⟨0, i, p.dummy, Nat.succ_pos _, hi, hh, fun k' i' hk => absurd hk (Nat.not_lt_zero _), .inl rfl, ?_⟩
        unfold SetTable.probe.go
        rw [hs]
        show (if (hashAt i == h) = true then some (SetTable.Met.candidate p.j i (t.advance p)) else SetTable.probe.go t hashAt h f (t.advance p)) = _
        rw [if_pos (beq_iff_eq.mpr hh), adv_eq]
        show _ = some (SetTable.Met.candidate p.j i (wd (adv t.mask p) p.dummy))
        rw [wd_self (adv_dm _ _)]
      · refine nxt p.dummy (.inl rfl) (fun i' hi' => by rw [same i' hi']; exact hh) ?_
        conv => lhs; unfold SetTable.probe.go
        rw [hs]
        show (if (hashAt i == h) = true then some (SetTable.Met.candidate p.j i (t.advance p)) else SetTable.probe.go t hashAt h f (t.advance p)) = _
        rw [if_neg (by rw [beq_iff_eq]; exact hh), adv_eq, wd_self rfl]
    · have hd : p.j ∈ t.dummies.toList := (hin 0 (Nat.succ_pos _)).resolve_left hp
      have hs := slot_dm r rd hp hd
      refine nxt (some p.j) (.inr ⟨rfl, hd, hp⟩) (fun i' hi' => absurd (List.mem_of_getElem? hi') hp) ?_
      conv => lhs; unfold SetTable.probe.go
      rw [hs]
      rfl
structure TabD (t : SetTable) (hs : List Int) : Prop where
  ris : Ris t.place.toList
  rid : Ris t.dummies.toList
  dj : ∀ x ∈ t.dummies.toList, x ∉ t.place.toList
  sz : t.place.size = hs.length
  msk : Mk t.mask
  bd : ∀ x ∈ t.place.toList, x ≤ t.mask
  bdd : ∀ x ∈ t.dummies.toList, x ≤ t.mask
  reach : ∀ (i : Nat) (h : Int) (j : Nat), hs[i]? = some h → t.place.toList[i]? = some j → ∃ k, way t.mask h k = j ∧ ∀ k', k' < k → Occ t (way t.mask h k')
theorem TabD.len {hs : List Int} (T : TabD t hs) : t.place.toList.length = hs.length := by
  rw [Array.length_toList]
  exact T.sz
theorem TabD.first {hs : List Int} (T : TabD t hs) (hl : t.fill ≤ t.mask) (h : Int) : ∃ K, K < 10 * SetTable.turns t.mask ∧ ¬ Occ t (way t.mask h K) ∧ ∀ k, k < K → Occ t (way t.mask h k) := by
  obtain ⟨K, a, b, c⟩ := first_free (rd_mk T.msk) (t.place.toList ++ t.dummies.toList) (by
    rw [List.length_append, Array.length_toList, Array.length_toList]
    exact hl) h
  exact ⟨K, a, fun z => b (List.mem_append.mpr z), fun k hk => List.mem_append.mp (c k hk)⟩
theorem TabD.before {hs : List Int} (T : TabD t hs) {h : Int} {K i j : Nat} (hK : ¬ Occ t (way t.mask h K)) (hi : hs[i]? = some h) (hj : t.place.toList[i]? = some j) : ∃ k, k < K ∧ way t.mask h k = j := by
  obtain ⟨k, e, hb⟩ := T.reach i h j hi hj
  refine ⟨k, ?_, e⟩
  rcases Nat.lt_trichotomy k K with c | c | c
  · exact c
  · rw [← c, e] at hK
    exact absurd (.inl (List.mem_of_getElem? hj)) hK
  · exact absurd (hb K c) hK
/-- a slot where something may be put: none of its hash stands behind it -/
def FreeAt (t : SetTable) (h : Int) (j : Nat) (dm : Bool) : Prop := (∃ K, way t.mask h K = j ∧ ∀ k, k < K → Occ t (way t.mask h k)) ∧ j ∉ t.place.toList ∧ (dm = true ↔ j ∈ t.dummies.toList)
theorem toList_erase {α : Type} (xs : Array α) (p : Nat) : (SetTable.eraseAt xs p).toList = xs.toList.eraseIdx p := by
  rw [List.eraseIdx_eq_take_drop_succ]
  unfold SetTable.eraseAt
  rw [Array.toList_append, Array.toList_extract, Array.toList_extract, List.extract_eq_take_drop, List.extract_eq_take_drop]
  simp [List.take_of_length_le]
theorem mem_erase {l : List Nat} (r : Ris l) {p j : Nat} (h : l[p]? = some j) {x : Nat} : x ∈ l.eraseIdx p ↔ x ∈ l ∧ x ≠ j := by
  have nd := ris_nd r
  constructor
  · intro hx
    refine ⟨List.mem_of_mem_eraseIdx hx, fun e => ?_⟩
    subst e
    rw [List.mem_eraseIdx_iff_getElem?] at hx
    obtain ⟨i, hi, e⟩ := hx
    have hp := (List.getElem?_eq_some_iff.mp h).1
    have := (List.getElem?_inj hp nd).mp (h.trans e.symm)
    omega
  · rintro ⟨hx, ne⟩
    rw [List.mem_eraseIdx_iff_getElem?]
    obtain ⟨i, hi⟩ := List.getElem?_of_mem hx
    refine ⟨i, fun e => ?_, hi⟩
    subst e
    rw [h] at hi
    exact ne (Option.some.inj hi).symm
theorem ris_erase {l : List Nat} (r : Ris l) (p : Nat) : Ris (l.eraseIdx p) := List.Pairwise.sublist (List.eraseIdx_sublist _ _) r
theorem TabD.put {hs : List Int} (T : TabD t hs) {h : Int} {j : Nat} {dm : Bool} (F : FreeAt t h j dm) :
    (t.put j).2 = SetTable.below t.place j ∧ SetTable.below t.place j ≤ hs.length ∧ TabD (t.put j).1 (hs.take (SetTable.below t.place j) ++ h :: hs.drop (SetTable.below t.place j)) ∧
    (t.put j).1.mask = t.mask ∧ (t.put j).1.led = t.led ∧ (t.put j).1.plain = t.plain ∧ (t.put j).1.fill = (if dm = true then t.fill else t.fill + 1) := by
  obtain ⟨⟨K, hK, hb⟩, hn, hdm⟩ := F
  have hjm : j ≤ t.mask := by
    rw [← hK]
    exact way_in
  obtain ⟨c1, _, _⟩ := below_cut T.ris j
  have hpl : SetTable.below t.place j ≤ t.place.toList.length := by
    rw [Array.length_toList]
    exact c1
  have hph : SetTable.below t.place j ≤ hs.length := by
    rw [← T.len]
    exact hpl
  have hnp : t.place[SetTable.below t.place j]? ≠ some j := fun e => hn (List.mem_of_getElem? (by rw [Array.getElem?_toList]; exact e))
  have hpp := put_place t j
  have hsize : (t.put j).1.place.size = hs.length + 1 := by
    rw [← Array.length_toList, hpp, len_ins _ hpl, T.len]
  have hdd : (t.put j).1.dummies.toList = if dm = true then t.dummies.toList.eraseIdx (SetTable.below t.dummies j) else t.dummies.toList := by
    show (if SetTable.has t.dummies j = true then SetTable.eraseAt t.dummies (SetTable.below t.dummies j) else t.dummies).toList = _
    have e : SetTable.has t.dummies j = true ↔ dm = true := by rw [has_iff T.rid, below_at T.rid, hdm]
    by_cases c : dm = true
    · rw [if_pos (e.mpr c), if_pos c, toList_erase]
    · rw [if_neg fun z => c (e.mp z), if_neg c]
  have mdd : ∀ x, x ∈ (t.put j).1.dummies.toList ↔ x ∈ t.dummies.toList ∧ x ≠ j := fun x => by
    rw [hdd]
    by_cases c : dm = true
    · rw [if_pos c]
      exact mem_erase T.rid ((below_at T.rid).mpr (hdm.mp c))
    · rw [if_neg c]
      exact ⟨fun z => ⟨z, fun e => c (hdm.mpr (e ▸ z))⟩, fun z => z.1⟩
  have up : ∀ {x : Nat}, Occ t x → Occ (t.put j).1 x := fun {x} hx => by
    by_cases e : x = j
    · left
      rw [hpp]
      exact mem_ins.2 (.inl e)
    · rcases hx with hx | hx
      · left
        rw [hpp]
        exact mem_ins.2 (.inr hx)
      · exact .inr ((mdd x).mpr ⟨hx, e⟩)
  refine ⟨rfl, hph, ⟨ris_insert T.ris hnp, ?_, fun x hx => ?_, ?_, T.msk, fun x hx => ?_, fun x hx => T.bdd x ((mdd x).mp hx).1, fun i h' j' h1 h2 => ?_⟩, rfl, rfl, rfl, ?_⟩
  · rw [hdd]
    split
    · exact ris_erase T.rid _
    · exact T.rid
  · rw [hpp]
    intro z
    obtain ⟨a, b⟩ := (mdd x).mp hx
    rcases mem_ins.1 z with z | z
    · exact b z
    · exact T.dj x a z
  · rw [len_ins _ hph]
    exact hsize
  · rw [hpp] at hx
    rcases mem_ins.1 hx with z | z
    · rw [z]
      exact hjm
    · exact T.bd x z
  · rw [tins_get hs hph] at h1
    rw [hpp, tins_get _ hpl] at h2
    show ∃ k, way t.mask h' k = j' ∧ ∀ k', k' < k → Occ (t.put j).1 (way t.mask h' k')
    by_cases c : i < SetTable.below t.place j
    · rw [if_pos c] at h1 h2
      obtain ⟨k, e, z⟩ := T.reach i h' j' h1 h2
      exact ⟨k, e, fun k' hk' => up (z k' hk')⟩
    · rw [if_neg c] at h1 h2
      by_cases d : i = SetTable.below t.place j
      · rw [if_pos d] at h1 h2
        cases h1
        cases h2
        exact ⟨K, hK, fun k' hk' => up (hb k' hk')⟩
      · rw [if_neg d] at h1 h2
        obtain ⟨k, e, z⟩ := T.reach (i - 1) h' j' h1 h2
        exact ⟨k, e, fun k' hk' => up (z k' hk')⟩
  · show (t.put j).1.place.size + (t.put j).1.dummies.size = if dm = true then t.place.size + t.dummies.size else t.place.size + t.dummies.size + 1
    have e : (t.put j).1.dummies.size = (if dm = true then t.dummies.toList.eraseIdx (SetTable.below t.dummies j) else t.dummies.toList).length := by
      rw [← hdd]
      exact Array.length_toList.symm
    have l1 : t.dummies.toList.length = t.dummies.size := Array.length_toList
    have l2 := T.sz
    rw [hsize, e]
    by_cases c : dm = true
    · rw [if_pos c, if_pos c]
      have z := (below_at T.rid).mpr (hdm.mp c)
      have zl := (List.getElem?_eq_some_iff.mp z).1
      rw [List.length_eraseIdx, if_pos zl]
      omega
    · rw [if_neg c, if_neg c]
      omega
theorem TabD.drop {hs : List Int} (T : TabD t hs) {i j : Nat} (h : t.place.toList[i]? = some j) :
    TabD (t.drop i) (hs.eraseIdx i) ∧ (t.drop i).mask = t.mask ∧ (t.drop i).led = t.led ∧ (t.drop i).plain = t.plain ∧ (t.drop i).fill = t.fill := by
  have e0 : t.place[i]? = some j := by
    rw [← Array.getElem?_toList]
    exact h
  have ed : t.drop i = { t with place := SetTable.eraseAt t.place i, dummies := SetTable.insertAt t.dummies (SetTable.below t.dummies j) j } := by
    unfold SetTable.drop
    rw [e0]
  rw [ed]
  have hjp : j ∈ t.place.toList := List.mem_of_getElem? h
  have hjd : j ∉ t.dummies.toList := fun z => T.dj j z hjp
  have hil := (List.getElem?_eq_some_iff.mp h).1
  have epl : (SetTable.eraseAt t.place i).toList = t.place.toList.eraseIdx i := toList_erase _ _
  have edl : (SetTable.insertAt t.dummies (SetTable.below t.dummies j) j).toList = t.dummies.toList.take (SetTable.below t.dummies j) ++ j :: t.dummies.toList.drop (SetTable.below t.dummies j) := SetTable.toList_insertAt _ _ _
  have md : ∀ x, x ∈ (SetTable.insertAt t.dummies (SetTable.below t.dummies j) j).toList ↔ x = j ∨ x ∈ t.dummies.toList := fun x => by
    rw [edl]
    exact mem_ins
  have mp : ∀ x, x ∈ (SetTable.eraseAt t.place i).toList ↔ x ∈ t.place.toList ∧ x ≠ j := fun x => by
    rw [epl]
    exact mem_erase T.ris h
  refine ⟨⟨?_, ?_, fun x hx => ?_, ?_, T.msk, fun x hx => T.bd x ((mp x).mp hx).1, fun x hx => ?_, fun i' h' j' h1 h2 => ?_⟩, rfl, rfl, rfl, ?_⟩
  · show Ris (SetTable.eraseAt t.place i).toList
    rw [epl]
    exact ris_erase T.ris i
  · exact ris_insert T.rid fun e => hjd (List.mem_of_getElem? (by rw [Array.getElem?_toList]; exact e))
  · intro z
    obtain ⟨a, b⟩ := (mp x).mp z
    rcases (md x).mp hx with c | c
    · exact b c
    · exact T.dj x c a
  · show (SetTable.eraseAt t.place i).size = _
    rw [← Array.length_toList, epl, List.length_eraseIdx, List.length_eraseIdx, if_pos hil, if_pos (by rw [← T.len]; exact hil), T.len]
  · rcases (md x).mp hx with c | c
    · rw [c]
      exact T.bd j hjp
    · exact T.bdd x c
  · have h2 : (SetTable.eraseAt t.place i).toList[i']? = some j' := h2
    rw [epl, List.getElem?_eraseIdx] at h2
    rw [List.getElem?_eraseIdx] at h1
    have go : ∀ n, hs[n]? = some h' → t.place.toList[n]? = some j' → ∃ k, way t.mask h' k = j' ∧ ∀ k', k' < k → Occ { t with place := SetTable.eraseAt t.place i, dummies := SetTable.insertAt t.dummies (SetTable.below t.dummies j) j } (way t.mask h' k') := fun n a b => by
      obtain ⟨k, e, z⟩ := T.reach n h' j' a b
      refine ⟨k, e, fun k' hk' => ?_⟩
      rcases z k' hk' with y | y
      · by_cases c : way t.mask h' k' = j
        · exact .inr ((md _).mpr (.inl c))
        · exact .inl ((mp _).mpr ⟨y, c⟩)
      · exact .inr ((md _).mpr (.inr y))
    split at h1
    · rename_i c
      rw [if_pos c] at h2
      exact go i' h1 h2
    · rename_i c
      rw [if_neg c] at h2
      exact go (i' + 1) h1 h2
  · show (SetTable.eraseAt t.place i).size + (SetTable.insertAt t.dummies (SetTable.below t.dummies j) j).size = t.place.size + t.dummies.size
    have l1 : (SetTable.eraseAt t.place i).size = (t.place.toList.eraseIdx i).length := by
      rw [← epl]
      exact Array.length_toList.symm
    have l2 : (SetTable.insertAt t.dummies (SetTable.below t.dummies j) j).size = t.dummies.toList.length + 1 := by
      rw [← Array.length_toList, edl, len_ins _ (by rw [Array.length_toList]; exact (below_cut T.rid j).1)]
    have l3 : t.dummies.toList.length = t.dummies.size := Array.length_toList
    have l4 : t.place.toList.length = t.place.size := Array.length_toList
    rw [l1, l2, List.length_eraseIdx, if_pos hil]
    omega
end Sx

set_option Elab.async false
set_option linter.all false
set_option maxRecDepth 100000
namespace Sx
open PySem PySem.Spec PyProof.Rows L2
structure SetQ (P : Program) (w : World) (h : Heap) (a : Addr) (L : List (Addr × List Int)) (es : Array (Int × Value)) (ep : Nat) (t : SetTable) : Prop where
  ob : ∃ o, h.get? a = some o ∧ o.ExactSet ∧ o.data = .set es ep t
  rows : es.toList = rowsOf P w L
  tab : TabD t (L.map fun p => thash P w p.2)
  nd : (L.map (·.2)).Nodup
  tup : ∀ p ∈ L, IsT P w h p.2 p.1
  plain : t.plain = true
  led : w.params.followText "set-order" = true ∨ t.led = true
  room : t.fill * 5 < t.mask * 3
section
variable {P : Program} {w : World} {A : Around} {E : Value → Shared → Prop} {s : Shared}
variable {a : Addr} {L : List (Addr × List Int)} {es : Array (Int × Value)} {ep : Nat} {t : SetTable}
theorem rows_size (hr : es.toList = rowsOf P w L) : es.size = L.length := by
  have z := congrArg List.length hr
  unfold rowsOf at z
  rw [Array.length_toList, List.length_map] at z
  exact z
theorem rows_at (hr : es.toList = rowsOf P w L) {i : Nat} {p : Addr × List Int} (h : L[i]? = some p) : es[i]? = some (thash P w p.2, Value.ref p.1) := by
  rw [← Array.getElem?_toList, hr]
  unfold rowsOf
  rw [List.getElem?_map, h] <;> rfl
theorem SetQ.size {h : Heap} (R : SetQ P w h a L es ep t) : es.size = L.length := rows_size R.rows
theorem SetQ.psz {h : Heap} (R : SetQ P w h a L es ep t) : t.place.size = L.length := by
  have z := R.tab.sz
  rw [List.length_map] at z
  exact z
theorem fits_of {n : Nat} (h1 : t.place.size = n) (h2 : t.fill ≤ t.mask) : t.fits n = true := by
  unfold SetTable.fits
  rw [Bool.and_eq_true, beq_iff_eq, decide_eq_true_eq]
  exact ⟨h1, h2⟩
theorem SetQ.fits {h : Heap} (R : SetQ P w h a L es ep t) : t.fits es.size = true := fits_of (by rw [R.psz, R.size]) (by have := R.room; omega)
theorem SetQ.gw {h : Heap} (R : SetQ P w h a L es ep t) : ¬ t.gaveWay = true := by
  unfold SetTable.gaveWay
  rw [mk_odd R.tab.msk]
  decide
abbrev W (m : Nat) (h : Int) (c : Nat) : SetTable.Probe := nth m (runAt m (SetTable.bits h % (m + 1)) (SetTable.bits h)) c
theorem search_from (R : SetQ P w s.heap a L es ep t) {x : Addr} {k : List Int} (hx : IsT P w s.heap k x) (hu : A.units < cLine) {K : Nat} (hKf : K < 10 * SetTable.turns t.mask)
    (hK : ¬ Occ t (way t.mask (thash P w k) K)) (hKb : ∀ c, c < K → Occ t (way t.mask (thash P w k) c)) {adding : Bool} {Q : SetFound → Shared → Prop}
    (hin : ∀ (i : Nat) p, L[i]? = some p → p.2 = k → Q (.there (if adding = true then none else some i)) s) (hout : k ∉ L.map (·.2) → ∀ j dm, FreeAt t (thash P w k) j dm → Q (.free j dm) s) :
    ∀ (f c : Nat) (stand : Option SetTable.Probe) (d0 : Option Nat), stand.getD (t.probeStart (thash P w k)) = wd (W t.mask (thash P w k) c) d0 → (d0 = none ∨ ∃ k', k' < K ∧ d0 = some (way t.mask (thash P w k) k') ∧ way t.mask (thash P w k) k' ∈ t.dummies.toList) → c ≤ K → K - c < f →
      (∀ (i : Nat) p, L[i]? = some p → p.2 = k → ∃ c', c ≤ c' ∧ c' < K ∧ t.place.toList[i]? = some (way t.mask (thash P w k) c')) →
      wpAny (model P w) A (setSearchFrom a (.ref x) (thash P w k) adding f stand) Q E s
  | 0, c, stand, _, _, _, _, hf, _ => absurd hf (Nat.not_lt_zero _)
  | f + 1, c, stand, d0, hst, hd0, hc, hf, hre => by
    obtain ⟨o, ho, hex, hd⟩ := R.ob
    generalize hh : thash P w k = hv at hK hKb hst hd0 hre hout
    rw [setSearchFrom_succ]
    refine wpAny_bind (wpAny_setState_of ho hd R.fits ?_)
    dsimp only
    refine wp_if_neg R.gw ?_
    try refine wpAny_bind (wpAny_pure ?_)
    have sh : ∀ q, nth t.mask (wd (W t.mask hv c) d0) q = wd (W t.mask hv (c + q)) d0 := fun q => by rw [nth_wd, ← nth_add]
    have shj : ∀ q, (nth t.mask (wd (W t.mask hv c) d0) q).j = way t.mask hv (c + q) := fun q => by rw [sh]; rfl
    have spec := go_dm t R.tab.ris R.tab.rid (fun i => (es[i]?.map (·.1)).getD 0) hv (10 * SetTable.turns t.mask) (K - c) (wd (W t.mask hv c) d0) (by omega)
      (fun q hq => by rw [shj]; exact hKb (c + q) (by omega)) (by rw [shj, show c + (K - c) = K by omega]; exact hK)
    have hashAt : ∀ (i : Nat) p, L[i]? = some p → (fun i => (es[i]?.map (·.1)).getD 0) i = thash P w p.2 := fun i p hp => by
      show (es[i]?.map (·.1)).getD 0 = _
      rw [rows_at R.rows hp] <;> rfl
    have dmk : ∀ d, Dm t (wd (W t.mask hv c) d0) (K - c) d → (d = none ∨ ∃ k', k' < K ∧ d = some (way t.mask hv k') ∧ way t.mask hv k' ∈ t.dummies.toList) := by
      rintro d (z | ⟨k', z1, z2, z3, z4⟩)
      · have z : d = d0 := z
        rw [z]
        exact hd0
      · rw [shj] at z2 z3
        exact .inr ⟨c + k', by omega, z2, z3⟩
    rcases spec with ⟨q, i, d, hq, hi, hhh, hno, hdm, hpr⟩ | ⟨hno, d, hdm, hpr⟩
    · have hpr' : t.probe (fun i => (es[i]?.map (·.1)).getD 0) hv (stand.getD (t.probeStart hv)) = some (.candidate (way t.mask hv (c + q)) i (wd (W t.mask hv (c + (q + 1))) d)) := by
        rw [hst]
        show SetTable.probe.go t _ _ _ _ = _
        rw [hpr, shj, sh]
        rfl
      rw [hpr']
      dsimp only
      rw [shj] at hi
      have hil : i < L.length := by
        have h1 := (List.getElem?_eq_some_iff.mp hi).1
        rw [Array.length_toList, R.psz] at h1
        exact h1
      have hp : L[i]? = some L[i] := List.getElem?_eq_getElem hil
      generalize L[i] = p at hp
      have hmem : p ∈ L := List.mem_of_getElem? hp
      have hpt := R.tup p hmem
      have rest : wpAny (model P w) A (searchRest a (.ref x) hv adding f es t (way t.mask hv (c + q)) i (wd (W t.mask hv (c + (q + 1))) d)) Q E s := by
        have hsl : t.slot (way t.mask hv (c + q)) = .live i := slot_live R.tab.ris hi
        unfold searchRest
        rw [rows_at R.rows hp]
        dsimp only
        refine wpAny_bind (wpAny_holding (wpAny_eqBool_tuple hu hpt hx ?_))
        refine wpAny_bind (wpAny_setState_of ho hd R.fits ?_)
        dsimp only
        by_cases hkk : p.2 = k
        · have hg := hin i p hp hkk
          cases adding with
          | true =>
            refine wp_if_pos (by simp [hkk]) ?_
            exact wpAny_pure hg
          | false =>
            refine wp_if_neg (by simp) ?_
            try refine wpAny_bind (wpAny_pure ?_)
            rw [sameMem]
            dsimp only
            simp only [if_true, hsl, rows_at R.rows hp]
            refine wpAny_bind (wpAny_isSame_ref_self (wpAny_bind (wpAny_pure ?_)))
            simp only [if_true]
            refine wp_if_pos (by simp [hkk]) ?_
            exact wpAny_pure hg
        · refine wp_if_neg (by simp [hkk]) ?_
          try refine wpAny_bind (wpAny_pure ?_)
          rw [sameMem]
          dsimp only
          simp only [if_true, hsl, rows_at R.rows hp]
          refine wpAny_bind (wpAny_isSame_ref_self (wpAny_bind (wpAny_pure ?_)))
          simp only [if_true]
          refine wp_if_neg (by simp [hkk]) ?_
          have go := search_from R hx hu (K := K) (adding := adding) (Q := Q) hKf (by rw [hh]; exact hK) (by rw [hh]; exact hKb) hin (by rw [hh]; exact hout) f (c + (q + 1)) (some (wd (W t.mask hv (c + (q + 1))) d)) d (by rw [hh]; rfl) (by rw [hh]; exact dmk d hdm) (by omega) (by omega) (fun i0 p0 h0 hk0 => by
            rw [hh]
            obtain ⟨c', a1, a2, a3⟩ := hre i0 p0 h0 hk0
            refine ⟨c', ?_, a2, a3⟩
            rcases Nat.lt_trichotomy c' (c + q) with z | z | z
            · exfalso
              refine hno (c' - c) i0 (by omega) (by rw [shj, show c + (c' - c) = c' by omega]; exact a3) ?_
              exact (hashAt i0 p0 h0).trans ((congrArg (thash P w) hk0).trans hh)
            · exfalso
              rw [z] at a3
              have s0 := slot_live R.tab.ris a3
              rw [hsl] at s0
              injection s0 with s0
              rw [← s0, hp] at h0
              exact hkk ((congrArg Prod.snd (Option.some.inj h0)).trans hk0)
            · omega)
          rw [hh] at go
          exact go
      by_cases hl : t.led = true
      · refine wp_if_neg (by simp [hl]) ?_
        try refine wpAny_bind (wpAny_pure ?_)
        exact rest
      · refine wp_if_pos (by simp [hl]) ?_
        refine wpAny_bind (seen_tup hx (fun y hy => ?_) ?_)
        · obtain ⟨e, he, ee⟩ := List.mem_map.mp hy
          have he1 : e ∈ es ∧ e.1 = hv := by simpa using he
          have he2 : e ∈ es.toList := by simpa using he1.1
          rw [R.rows] at he2
          obtain ⟨p2, hp2, e2⟩ := List.mem_map.mp he2
          refine ⟨p2.2, p2.1, ?_, R.tup p2 hp2⟩
          rw [← ee, ← e2]
        · refine wp_if_neg (by decide) ?_
          try refine wpAny_bind (wpAny_pure ?_)
          exact rest
    · have hpr' : t.probe (fun i => (es[i]?.map (·.1)).getD 0) hv (stand.getD (t.probeStart hv)) = some (.empty (way t.mask hv K) d) := by
        rw [hst]
        show SetTable.probe.go t _ _ _ _ = _
        rw [hpr, shj, show c + (K - c) = K by omega]
      have nk : k ∉ L.map (·.2) := fun hm => by
        obtain ⟨p0, h0, hk0⟩ := List.mem_map.mp hm
        obtain ⟨i0, h00⟩ := List.getElem?_of_mem h0
        obtain ⟨c', a1, a2, a3⟩ := hre i0 p0 h00 hk0
        refine hno (c' - c) i0 (by omega) (by rw [shj, show c + (c' - c) = c' by omega]; exact a3) ?_
        exact (hashAt i0 p0 h00).trans ((congrArg (thash P w) hk0).trans hh)
      rw [hpr']
      dsimp only
      rcases dmk d hdm with e | ⟨k', z1, z2, z3⟩
      · subst e
        dsimp only
        refine wpAny_pure (hout nk _ _ ⟨⟨K, rfl, hKb⟩, fun z => hK (.inl z), ⟨(fun z => by cases z), fun z => absurd (.inr z) hK⟩⟩)
      · subst z2
        dsimp only
        have hdp := R.tab.dj _ z3
        have hsl := slot_dm R.tab.ris R.tab.rid hdp z3
        refine wp_if_neg (by rw [hsl]; simp) ?_
        try refine wpAny_bind (wpAny_pure ?_)
        exact wpAny_pure (hout nk _ _ ⟨⟨k', rfl, fun q hq => hKb q (Nat.lt_trans hq z1)⟩, hdp, ⟨fun _ => z3, fun _ => rfl⟩⟩)
theorem search_at (R : SetQ P w s.heap a L es ep t) {x : Addr} {k : List Int} (hx : IsT P w s.heap k x) (hu : A.units < cLine) {adding : Bool} {Q : SetFound → Shared → Prop}
    (hin : ∀ (i : Nat) p, L[i]? = some p → p.2 = k → Q (.there (if adding = true then none else some i)) s) (hout : k ∉ L.map (·.2) → ∀ j dm, FreeAt t (thash P w k) j dm → Q (.free j dm) s) :
    wpAny (model P w) A (setSearch a (.ref x) (thash P w k) adding) Q E s := by
  have hroom := R.room
  obtain ⟨K, hKf, hK, hKb⟩ := R.tab.first (by omega) (thash P w k)
  have hbig : K < 100000 := by
    have := mk_le R.tab.msk
    have : 10 * SetTable.turns t.mask ≤ 5260 := by
      unfold SetTable.turns
      omega
    omega
  unfold setSearch
  refine search_from R hx hu hKf hK hKb hin hout 100000 0 none none rfl (.inl rfl) (Nat.zero_le _) (by omega) fun i p hp hk => ?_
  have hi : (L.map fun p => thash P w p.2)[i]? = some (thash P w k) := by rw [List.getElem?_map, hp, ← hk] <;> rfl
  have hil : i < t.place.toList.length := by
    rw [Array.length_toList, R.psz]
    exact (List.getElem?_eq_some_iff.mp hp).1
  have hj := List.getElem?_eq_getElem hil
  obtain ⟨c, hc, e⟩ := R.tab.before hK hi hj
  exact ⟨c, Nat.zero_le _, hc, by rw [hj, e]⟩
end
end Sx

set_option Elab.async false
set_option linter.all false
set_option maxRecDepth 100000
namespace Sx
open PySem PySem.Spec PyProof.Rows L2
theorem free_at {m : Nat} (hm : Rd m) (owner : Array (Option Nat)) (h : Int) {j : Nat} (hj : j ≤ m) (hf : oAt owner j = none) :
    ∃ K, SetTable.layClean.free m owner (SetTable.turns m) (SetTable.bits h % (m + 1)) (SetTable.bits h) = some (way m h K) ∧ oAt owner (way m h K) = none ∧ ∀ k, k < K → oAt owner (way m h k) ≠ none := by
  obtain ⟨n, hn, e⟩ := meets hm h hj
  have hw : way m h (off m (SetTable.bits h % (m + 1)) (SetTable.bits h) n) = j := by
    show (nth m (runAt m (SetTable.bits h % (m + 1)) (SetTable.bits h)) (off m (SetTable.bits h % (m + 1)) (SetTable.bits h) n)).j = j
    rw [nth_off, itL_run]
    exact e
  obtain ⟨K, k1, k2, k3⟩ := st_least (p := fun k => oAt owner (way m h k) = none) (off m (SetTable.bits h % (m + 1)) (SetTable.bits h) n) (by rw [hw]; exact hf)
  refine ⟨K, ?_, k2, k3⟩
  refine free_spec m owner (SetTable.turns m) n _ _ K (by unfold SetTable.turns; omega) k1 (fun k hk => ?_) ?_
  · have q := k3 k hk
    cases z : oAt owner (nth m (runAt m (SetTable.bits h % (m + 1)) (SetTable.bits h)) k).j with
    | none => exact absurd z q
    | some _ => rfl
  · have q : oAt owner (nth m (runAt m (SetTable.bits h % (m + 1)) (SetTable.bits h)) K).j = none := k2
    rw [q] <;> rfl
theorem own_step {m : Nat} (hm : Rd m) {done : List Int} {owner : Array (Option Nat)} (W : Own m done owner) (hl : done.length ≤ m) (h : Int) :
    ∃ j, SetTable.layClean.free m owner (SetTable.turns m) (SetTable.bits h % (m + 1)) (SetTable.bits h) = some j ∧ Own m (done ++ [h]) (owner.setIfInBounds j (some done.length)) := by
  obtain ⟨ps, hps, hin⟩ := W.ps
  obtain ⟨j0, h0, hn0⟩ := st_missing ps (m + 1) (by omega)
  have hj0 : oAt owner j0 = none := Classical.byContradiction fun z => hn0 (hin j0 (Nat.le_of_lt_succ h0) z)
  obtain ⟨K, e1, e2, e3⟩ := free_at hm owner h (Nat.le_of_lt_succ h0) hj0
  have hjs : way m h K < owner.size := by
    rw [W.sz]
    exact Nat.lt_succ_of_le way_in
  have hself := oAt_set_self (some done.length) hjs
  have mono : ∀ {i : Nat}, oAt owner i ≠ none → oAt (owner.setIfInBounds (way m h K) (some done.length)) i ≠ none := fun {i} hi => by
    by_cases c : i = way m h K
    · rw [c, hself]
      exact fun e => nomatch e
    · rw [oAt_set_ne _ c]
      exact hi
  refine ⟨way m h K, e1, by rw [Array.size_setIfInBounds]; exact W.sz, fun j k hj e => ?_, fun k hk => ?_, way m h K :: ps, by rw [List.length_cons, List.length_append, hps] <;> rfl, fun j hj e => ?_⟩
  · by_cases c : j = way m h K
    · rw [c, hself] at e
      refine ⟨h, K, ?_, c.symm, fun k' hk' => mono (e3 k' hk')⟩
      rw [← Option.some.inj e, List.getElem?_append_right (Nat.le_refl _), Nat.sub_self] <;> rfl
    · rw [oAt_set_ne _ c] at e
      obtain ⟨h', K', a1, a2, a3⟩ := W.at_ j k hj e
      exact ⟨h', K', by rw [List.getElem?_append_left (List.getElem?_eq_some_iff.mp a1).1]; exact a1, a2, fun k' hk' => mono (a3 k' hk')⟩
  · rw [List.length_append, List.length_singleton] at hk
    by_cases c : k < done.length
    · obtain ⟨j, hj, e⟩ := W.all k c
      exact ⟨j, hj, by rw [oAt_set_ne _ fun z => by rw [z, e2] at e; cases e]; exact e⟩
    · have ek : k = done.length := by omega
      rw [ek]
      exact ⟨way m h K, way_in, hself⟩
  · by_cases c : j = way m h K
    · rw [c]
      exact List.mem_cons_self
    · rw [oAt_set_ne _ c] at e
      exact List.mem_cons_of_mem _ (hin j hj e)
theorem lay_fold {m : Nat} (hm : Rd m) : ∀ (rest done : List Int) (owner : Array (Option Nat)), Own m done owner → done.length + rest.length ≤ m →
    ∃ owner', rest.foldl (stepF m) (some (owner, done.length)) = some (owner', (done ++ rest).length) ∧ Own m (done ++ rest) owner'
  | [], done, owner, W, _ => ⟨owner, by rw [List.append_nil] <;> rfl, by rw [List.append_nil]; exact W⟩
  | h :: rest, done, owner, W, hl => by
    rw [List.length_cons] at hl
    obtain ⟨j, e, W'⟩ := own_step hm W (by omega) h
    have hl' : (done ++ [h]).length = done.length + 1 := by rw [List.length_append] <;> rfl
    obtain ⟨owner', f, W2⟩ := lay_fold hm rest (done ++ [h]) _ W' (by omega)
    have ea : done ++ [h] ++ rest = done ++ h :: rest := by rw [List.append_assoc] <;> rfl
    rw [ea, hl'] at f
    rw [ea] at W2
    refine ⟨owner', ?_, W2⟩
    rw [List.foldl_cons, stepF_some e]
    exact f
theorem lay_clean {m : Nat} (hm : Rd m) {hs : Array Int} (hn : hs.size ≤ m) : ∃ owner, SetTable.layClean m hs = some owner ∧ Own m hs.toList owner := by
  obtain ⟨owner, f, W⟩ := lay_fold hm hs.toList [] _ (Own.init m) (by rw [Array.length_toList]; show 0 + hs.size ≤ m; omega)
  rw [List.nil_append] at W
  refine ⟨owner, ?_, W⟩
  rw [layClean_eq]
  have f' : hs.toList.foldl (stepF m) (some (Array.replicate (m + 1) none, 0)) = some (owner, ([] ++ hs.toList).length) := f
  rw [f'] <;> rfl
theorem laid_ok {M finger moves : Nat} {led plain : Bool} {hs : Array Int} (hM : Mk M) (hn : hs.size ≤ M) :
    ∃ t' order, SetTable.laid M finger moves led plain hs = some (t', order) ∧ order.toList.Perm (List.range hs.size) ∧ TabD t' (order.toList.map fun i => hs.getD i 0) ∧ t'.mask = M ∧ t'.led = led ∧ t'.plain = plain ∧ t'.fill = hs.size := by
  obtain ⟨owner, e, W⟩ := lay_clean (rd_mk hM) hn
  have hr : SetTable.laid M finger moves led plain hs = some ({ mask := M, place := ((liveOf M owner).map (·.1)).toArray, dummies := #[], finger, led, moves, plain }, ((liveOf M owner).map (·.2)).toArray) := by
    unfold SetTable.laid
    rw [e]
    rfl
  have ris := ris_live (fun j => owner.getD j none) (List.range (M + 1)) (by
    unfold Ris
    first | exact List.pairwise_lt_range | exact List.pairwise_lt_range _)
  have r1 : Ris ((liveOf M owner).map (·.1)) := ris.1
  have r2 : ∀ x ∈ (liveOf M owner).map (·.1), x ∈ List.range (M + 1) := ris.2
  have hlen : (liveOf M owner).length = hs.size := by
    obtain ⟨ps, p1, p2⟩ := W.ps
    have a := nat_nodup_len ((liveOf M owner).map (·.1)) ps (ris_nd r1) fun x hx => by
      obtain ⟨⟨y, k⟩, hq, rfl⟩ := List.mem_map.mp hx
      obtain ⟨b1, b2⟩ := (mem_live W.sz).1 hq
      exact p2 y b1 (by rw [b2]; exact fun z => nomatch z)
    have b := nat_nodup_len (List.range hs.size) ((liveOf M owner).map (·.2)) List.nodup_range fun k hk => by
      obtain ⟨j, b1, b2⟩ := W.all k (by rw [Array.length_toList]; exact List.mem_range.mp hk)
      exact List.mem_map.mpr ⟨(j, k), (mem_live W.sz).2 ⟨b1, b2⟩, rfl⟩
    rw [List.length_map, p1] at a
    rw [List.length_map, List.length_range] at b
    have hz : hs.toList.length = hs.size := rfl
    omega
  refine ⟨_, _, hr, ?_, ⟨r1, List.Pairwise.nil, fun x hx => (by cases hx), ?_, hM, fun x hx => Nat.le_of_lt_succ (List.mem_range.mp (r2 x hx)), fun x hx => (by cases hx), fun i h j h1 h2 => ?_⟩, rfl, rfl, rfl, ?_⟩
  · refine perm_range hs.size _ ?_ fun k hk => ?_
    · show ((liveOf M owner).map (·.2)).length = hs.size
      rw [List.length_map]
      exact hlen
    · obtain ⟨j, b1, b2⟩ := W.all k (by rw [Array.length_toList]; exact hk)
      exact List.mem_map.mpr ⟨(j, k), (mem_live W.sz).2 ⟨b1, b2⟩, rfl⟩
  · show ((liveOf M owner).map (·.1)).toArray.size = (((liveOf M owner).map (·.2)).map fun i => hs.getD i 0).length
    rw [List.size_toArray, List.length_map, List.length_map, List.length_map]
  · have h1 : (((liveOf M owner).map (·.2)).map fun i => hs.getD i 0)[i]? = some h := h1
    have h2 : ((liveOf M owner).map (·.1))[i]? = some j := h2
    rw [List.getElem?_map, List.getElem?_map] at h1
    rw [List.getElem?_map] at h2
    cases hq : (liveOf M owner)[i]? with
    | none =>
      rw [hq] at h2
      cases h2
    | some q =>
      obtain ⟨y, k⟩ := q
      rw [hq] at h1 h2
      have ej : y = j := Option.some.inj h2
      have eh : hs.getD k 0 = h := Option.some.inj h1
      subst ej
      obtain ⟨b1, b2⟩ := (mem_live W.sz).1 (List.mem_of_getElem? hq)
      obtain ⟨h0, K, a1, a2, a3⟩ := W.at_ y k b1 b2
      have e0 : hs.getD k 0 = h0 := by
        rw [Array.getD_eq_getD_getElem?, ← Array.getElem?_toList, a1] <;> rfl
      have ehh : h0 = h := e0.symm.trans eh
      subst ehh
      refine ⟨K, a2, fun k' hk' => .inl ?_⟩
      show way M h0 k' ∈ (liveOf M owner).map (·.1)
      cases z : oAt owner (way M h0 k') with
      | none => exact absurd z (a3 k' hk')
      | some k2 => exact List.mem_map.mpr ⟨(way M h0 k', k2), (mem_live W.sz).2 ⟨way_in, z⟩, rfl⟩
  · show ((liveOf M owner).map (·.1)).toArray.size + 0 = hs.size
    rw [List.size_toArray, List.length_map, hlen]
    rfl
theorem grown_mk : ∀ u, u < 78 → Mk (SetTable.sizeAbove (SetTable.grown u) - 1) ∧ SetTable.sizeAbove (SetTable.grown u) ≤ 512 ∧ u * 5 < (SetTable.sizeAbove (SetTable.grown u) - 1) * 3 := by
  have key : ∀ u : Fin 78, Mk (SetTable.sizeAbove (SetTable.grown u.val) - 1) ∧ SetTable.sizeAbove (SetTable.grown u.val) ≤ 512 ∧ u.val * 5 < (SetTable.sizeAbove (SetTable.grown u.val) - 1) * 3 := by decide +kernel
  exact fun u hu => key ⟨u, hu⟩
theorem room_mk : ∀ u, u < 150 → Mk (SetTable.sizeAbove (u * 2) - 1) ∧ SetTable.sizeAbove (u * 2) ≤ 512 ∧ u * 5 < (SetTable.sizeAbove (u * 2) - 1) * 3 := by
  have key : ∀ u : Fin 150, Mk (SetTable.sizeAbove (u.val * 2) - 1) ∧ SetTable.sizeAbove (u.val * 2) ≤ 512 ∧ u.val * 5 < (SetTable.sizeAbove (u.val * 2) - 1) * 3 := by decide +kernel
  exact fun u hu => key ⟨u, hu⟩
section
variable {P : Program} {w : World} {A : Around} {E : Value → Shared → Prop} {s : Shared}
variable {a : Addr} {L : List (Addr × List Int)} {es : Array (Int × Value)} {ep : Nat} {t : SetTable}
theorem isT_kept {h h' : Heap} {k : List Int} {b : Addr} (x : IsT P w h k b) (hk : ∀ c o, h.get? c = some o → h'.get? c = some o) : IsT P w h' k b := by
  obtain ⟨o, items, n, ho, r⟩ := x
  exact ⟨o, items, n, hk b o ho, r⟩
/-- setRelay -/
theorem relay_at {o : Obj} (ho : s.heap.get? a = some o) (hex : o.ExactSet) (hd : o.data = .set es ep t) (hrows : es.toList = rowsOf P w L) (hsz : t.place.size = es.size) (hfl : t.fill ≤ t.mask)
    (nd : (L.map (·.2)).Nodup) (tup : ∀ p ∈ L, IsT P w s.heap p.2 p.1) (pl : t.plain = true) (ld : w.params.followText "set-order" = true ∨ t.led = true) {wanted : Nat}
    (hM : Mk (SetTable.sizeAbove wanted - 1)) (hw : SetTable.sizeAbove wanted ≤ 512) (hn : L.length * 5 < (SetTable.sizeAbove wanted - 1) * 3) {Q : Unit → Shared → Prop}
    (hQ : ∀ h' L' es' ep' t', Heap.SameBut a s.heap h' → SetQ P w h' a L' es' ep' t' → L'.Perm L → t'.fill = L.length → t'.mask = SetTable.sizeAbove wanted - 1 → Q () { s with heap := h' }) : wpAny (model P w) A (setRelay a wanted) Q E s := by
  have hsl := rows_size hrows
  have hfits := fits_of hsz hfl
  obtain ⟨t', order, e, hp, T, em, el, epl, ef⟩ := laid_ok (finger := t.finger) (moves := t.movedTo (SetTable.sizeAbove wanted - 1)) (led := t.led) (plain := t.plain) (hs := es.map (·.1)) hM (by rw [Array.size_map]; omega)
  rw [Array.size_map, hsl] at hp ef
  obtain ⟨L2, r1, r2, r3⟩ := order_rows L es order hrows hp
  rw [← r3] at T
  have hs2 : (order.filterMap (es[·]?)).size = es.size := by rw [rows_size r1, r2.length_eq, hsl]
  rw [setRelay_eq]
  refine wpAny_bind (wpAny_setState_of ho hd hfits ?_)
  dsimp only
  refine wp_if_neg (by rw [sizeLine_eq]; omega) ?_
  try refine wpAny_bind (wpAny_pure ?_)
  have e : t.relaid (es.map (·.1)) wanted = some (t', order) := e
  rw [e]
  dsimp only
  refine wpAny_bind ?_
  refine wp_if_neg (by rw [hs2]; simp) ?_
  try refine wpAny_bind (wpAny_pure ?_)
  refine wpAny_pure ?_
  dsimp only
  have hlen : L.length ≤ 512 := by omega
  refine wpAny_storeSet_of ho hd ?_ (by rw [hs2, hsl, sizeLine_eq]; omega)
  have sb : Heap.SameBut a s.heap (s.heap.update a (Obj.putSet (order.filterMap (es[·]?)) t')) := Heap.SameBut.update ..
  refine hQ _ L2 (order.filterMap (es[·]?)) (ep + 1) t' sb ?_ r2 ef em
  exact ⟨⟨_, store_at ho hd, ⟨hex.1, hex.2.1, hex.2.2⟩, rfl⟩, r1, T, (r2.map (·.2)).nodup_iff.mpr nd, fun p hpm => isT_same (tup p (r2.mem_iff.mp hpm)) ho hd sb, by rw [epl]; exact pl, by rw [el]; exact ld, by rw [ef, em]; exact hn⟩
/-- adding -/
theorem add_at (R : SetQ P w s.heap a L es ep t) {x : Addr} {k : List Int} (hx : IsT P w s.heap k x) (hu : A.units < cLine) (hfew : t.fill < 140) {Q : Bool → Shared → Prop}
    (hQ : ∀ b h' L' es' ep' t', Heap.SameBut a s.heap h' → SetQ P w h' a L' es' ep' t' → (k ∈ L.map (·.2) → L' = L) → (k ∉ L.map (·.2) → L'.Perm ((x, k) :: L)) → t'.fill ≤ t.fill + 1 → Q b { s with heap := h' }) :
    wpAny (model P w) A (setAddHashed a (.ref x) (thash P w k)) Q E s := by
  obtain ⟨o, ho, hex, hd⟩ := R.ob
  have hsl := R.size
  have hroom := R.room
  unfold setAddHashed
  refine wpAny_holding ?_
  rw [show (100000 : Nat) = 99999 + 1 from rfl, setAddHashedIn_succ]
  refine wpAny_bind (wpAny_setState_of ho hd R.fits ?_)
  dsimp only
  refine wp_if_neg (by simp [byScan, Value.scannable]) ?_
  try refine wpAny_bind (wpAny_pure ?_)
  refine wpAny_bind (search_at R hx hu (fun i p hp hk => ?_) fun hm j dm F => ?_)
  · dsimp only
    refine wpAny_pure (hQ false s.heap L es ep t (Heap.SameBut.refl a s.heap) R (fun _ => rfl) (fun z => absurd (List.mem_map.mpr ⟨p, List.mem_of_getElem? hp, hk⟩) z) (Nat.le_succ _))
  · dsimp only
    refine wpAny_bind (wpAny_setState_of ho hd R.fits ?_)
    dsimp only
    obtain ⟨q1, q2, q3, q4, q5, q6, q9⟩ := R.tab.put F
    rw [List.length_map] at q2
    have hp1 : (t.put j).1.plain = true := by rw [q6]; exact R.plain
    generalize hpt : t.put j = pt at q1 q3 q4 q5 q6 q9 hp1 ⊢
    obtain ⟨t1, p⟩ := pt
    dsimp only at q1 q3 q4 q5 q6 q9 hp1 ⊢
    subst q1
    first
      | (refine wpAny_bind ?_; refine wp_if_pos hp1 ?_; refine hashBy_tup hx ?_)
      | refine wp_if_pos hp1 (wpAny_bind (hashBy_tup hx ?_))
    simp only [if_true]
    have hin : (SetTable.insertAt es (SetTable.below t.place j) (thash P w k, Value.ref x)).toList = rowsOf P w (L.take (SetTable.below t.place j) ++ (x, k) :: L.drop (SetTable.below t.place j)) := by
      rw [SetTable.toList_insertAt, rows_put, R.rows]
    generalize hpp : SetTable.below t.place j = p at q2 q3 hin ⊢
    have pm := put_perm L p (x, k)
    have hlen : (L.take p ++ (x, k) :: L.drop p).length = L.length + 1 := pm.length_eq
    have hhs : (L.take p ++ (x, k) :: L.drop p).map (fun p => thash P w p.2) = (L.map fun p => thash P w p.2).take p ++ thash P w k :: (L.map fun p => thash P w p.2).drop p := by
      rw [List.map_append, List.map_cons, List.map_take, List.map_drop]
    rw [← hhs] at q3
    have nd1 : ((L.take p ++ (x, k) :: L.drop p).map (·.2)).Nodup := by
      refine (pm.map (·.2)).nodup_iff.mpr ?_
      rw [List.map_cons]
      exact List.nodup_cons.mpr ⟨hm, R.nd⟩
    have hes : (SetTable.insertAt es p (thash P w k, Value.ref x)).size = L.length + 1 := by rw [rows_size hin, hlen]
    generalize SetTable.insertAt es p (thash P w k, Value.ref x) = es1 at hin hes ⊢
    generalize L.take p ++ (x, k) :: L.drop p = L1 at pm hlen q3 nd1 hin
    have hLf : L.length ≤ t.fill := by
      rw [← R.psz]
      exact Nat.le_add_right _ _
    have hsz1 : t1.place.size = es1.size := by
      rw [q3.sz, List.length_map, hlen, hes]
    have hf1 : t1.fill ≤ t.fill + 1 := by
      rw [q9]
      split <;> omega
    have hL1 : L.length + 1 ≤ t1.fill := by
      have z : t1.place.size ≤ t1.fill := Nat.le_add_right _ _
      omega
    have hmk := R.tab.msk
    refine wpAny_bind (wpAny_storeSet_of ho hd ?_ (by rw [hes, sizeLine_eq]; omega))
    have sb : Heap.SameBut a s.heap (s.heap.update a (Obj.putSet es1 t1)) := Heap.SameBut.update ..
    have ho1 := store_at (es' := es1) (t' := t1) ho hd
    generalize s.heap.update a (Obj.putSet es1 t1) = h1 at sb ho1 ⊢
    have tup1 : ∀ p ∈ L1, IsT P w h1 p.2 p.1 := fun p hp => by
      rcases List.mem_cons.mp (pm.mem_iff.mp hp) with e | hp
      · rw [e]
        exact isT_same hx ho hd sb
      · exact isT_same (R.tup p hp) ho hd sb
    have ld1 : w.params.followText "set-order" = true ∨ t1.led = true := by
      rw [q5]
      exact R.led
    have stay : t1.fill * 5 < t1.mask * 3 → wpAny (model P w) A (pure true : Sem Bool) Q E { s with heap := h1 } := fun hr =>
      wpAny_pure (hQ true h1 L1 es1 (ep + 1) t1 sb ⟨⟨_, ho1, ⟨hex.1, hex.2.1, hex.2.2⟩, rfl⟩, hin, q3, nd1, tup1, hp1, ld1, hr⟩ (fun z => absurd z hm) (fun _ => pm) hf1)
    by_cases hf : (!dm && t1.tooFull) = true
    · first
        | (refine wpAny_bind ?_; refine wp_if_pos hf ?_)
        | (refine wp_if_pos hf ?_; refine wpAny_bind ?_)
      rw [Bool.and_eq_true] at hf
      have hfull : t1.fill * 5 ≥ t1.mask * 3 := by
        have z := hf.2
        unfold SetTable.tooFull at z
        exact of_decide_eq_true z
      have hdm : dm = false := by
        cases dm with
        | false => rfl
        | true => exact absurd hf.1 (by decide)
      rw [hsl]
      have hu77 : L.length + 1 < 78 := by
        rw [q4] at hfull
        unfold Mk at hmk
        omega
      obtain ⟨g1, g2, g3⟩ := grown_mk (L.length + 1) hu77
      refine relay_at (s := { s with heap := h1 }) ho1 ⟨hex.1, hex.2.1, hex.2.2⟩ rfl hin hsz1 (by rw [q4]; unfold Mk at hmk; omega) nd1 tup1 hp1 ld1 g1 g2 (by rw [hlen]; exact g3) ?_
      intro h2 L2 es2 ep2 t2 sb2 R2 pm2 ef em
      refine wpAny_pure (hQ true h2 L2 es2 ep2 t2 (sb.trans sb2) R2 (fun z => absurd z hm) (fun _ => pm2.trans pm) (by rw [ef, hlen]; omega))
    · have hr : t1.fill * 5 < t1.mask * 3 := by
        rw [q4, q9]
        by_cases c : dm = true
        · rw [if_pos c]
          exact hroom
        · have cf : dm = false := by
            cases dm with
            | false => rfl
            | true => exact absurd rfl c
          rw [cf] at hf
          have z : ¬ t1.fill * 5 ≥ t1.mask * 3 := fun y => hf (by
            unfold SetTable.tooFull
            rw [decide_eq_true y]
            rfl)
          rw [q4, q9, if_neg c] at z
          rw [if_neg c]
          omega
      first
        | refine wp_if_neg hf ?_
        | (refine wpAny_bind ?_; refine wp_if_neg hf ?_; refine wpAny_pure ?_)
      exact stay hr
end
end Sx

set_option Elab.async false
set_option linter.all false
set_option maxRecDepth 100000
namespace Sx
open PySem PySem.Spec PyProof.Rows L2
theorem setFindIn_succ (a : Addr) (x : Value) (h : Int) (fuel : Nat) : setFindIn a x h (fuel + 1) = (do
    let (es, _, _) ← setState a
    if byScan x es then
      rule "set.find.by-scan"
      match ← setScan a x h false es with
      | .found i => return some i
      | .absent => return none
      | .anew => return ← setFindIn a x h fuel
    match ← setSearch a x h with
    | .there i => return i
    | .free .. => return none) := by rfl
theorem erase_map {α β : Type} (f : α → β) (l : List α) (i : Nat) : (l.map f).eraseIdx i = (l.eraseIdx i).map f := by
  refine List.ext_getElem? fun j => ?_
  rw [List.getElem?_eraseIdx, List.getElem?_map, List.getElem?_map, List.getElem?_map, List.getElem?_eraseIdx]
  split <;> rfl
section
variable {P : Program} {w : World} {A : Around} {E : Value → Shared → Prop} {s : Shared}
variable {a : Addr} {L : List (Addr × List Int)} {es : Array (Int × Value)} {ep : Nat} {t : SetTable}
theorem find_at (R : SetQ P w s.heap a L es ep t) {x : Addr} {k : List Int} (hx : IsT P w s.heap k x) (hu : A.units < cLine) {Q : Option Nat → Shared → Prop}
    (hin : ∀ (i : Nat) p, L[i]? = some p → p.2 = k → Q (some i) s) (hout : k ∉ L.map (·.2) → Q none s) : wpAny (model P w) A (setFind a (.ref x) (thash P w k)) Q E s := by
  obtain ⟨o, ho, hex, hd⟩ := R.ob
  unfold setFind
  rw [show (100000 : Nat) = 99999 + 1 from rfl, setFindIn_succ]
  refine wpAny_bind (wpAny_setState_of ho hd R.fits ?_)
  dsimp only
  refine wp_if_neg (by simp [byScan, Value.scannable]) ?_
  try refine wpAny_bind (wpAny_pure ?_)
  refine wpAny_bind (search_at R hx hu (fun i p hp hk => ?_) fun hm j dm _ => ?_)
  · exact wpAny_pure (hin i p hp hk)
  · exact wpAny_pure (hout hm)
theorem rows_erase (L : List (Addr × List Int)) (i : Nat) : rowsOf P w (L.eraseIdx i) = (rowsOf P w L).eraseIdx i := by
  unfold rowsOf
  rw [erase_map]
theorem mem_eraseK {L : List (Addr × List Int)} (nd : (L.map (·.2)).Nodup) {i : Nat} {p : Addr × List Int} (h : L[i]? = some p) {q : Addr × List Int} : q ∈ L.eraseIdx i ↔ q ∈ L ∧ q.2 ≠ p.2 := by
  have key : ∀ {j : Nat} {r : Addr × List Int}, L[j]? = some r → r.2 = p.2 → j = i := fun {j r} hj e => by
    have a1 : (L.map (·.2))[j]? = some p.2 := by rw [List.getElem?_map, hj, ← e] <;> rfl
    have a2 : (L.map (·.2))[i]? = some p.2 := by rw [List.getElem?_map, h] <;> rfl
    exact (List.getElem?_inj (List.getElem?_eq_some_iff.mp a1).1 nd).mp (a1.trans a2.symm)
  rw [List.mem_eraseIdx_iff_getElem?]
  constructor
  · rintro ⟨j, hj, e⟩
    exact ⟨List.mem_of_getElem? e, fun z => hj (key e z)⟩
  · rintro ⟨hq, ne⟩
    obtain ⟨j, hj⟩ := List.getElem?_of_mem hq
    exact ⟨j, fun z => by
      subst z
      rw [h] at hj
      exact ne (congrArg Prod.snd (Option.some.inj hj)).symm, hj⟩
/-- giving up -/
theorem discard_at (R : SetQ P w s.heap a L es ep t) {x : Addr} {k : List Int} (hx : IsT P w s.heap k x) (hu : A.units < cLine) {Q : Bool → Shared → Prop}
    (hin : k ∈ L.map (·.2) → ∀ h' L' es' ep' t', Heap.SameBut a s.heap h' → SetQ P w h' a L' es' ep' t' → (∀ q, q ∈ L' ↔ q ∈ L ∧ q.2 ≠ k) → t'.fill = t.fill → Q true { s with heap := h' }) (hout : k ∉ L.map (·.2) → Q false s) :
    wpAny (model P w) A (setDiscardHashed a (.ref x) (thash P w k)) Q E s := by
  obtain ⟨o, ho, hex, hd⟩ := R.ob
  have hroom := R.room
  unfold setDiscardHashed
  refine wpAny_bind (find_at R hx hu (fun i p hp hk => ?_) fun hm => wpAny_pure (hout hm))
  dsimp only
  refine wpAny_bind (wpAny_setState_of ho hd R.fits ?_)
  dsimp only
  have hi : i < L.length := (List.getElem?_eq_some_iff.mp hp).1
  have hil : i < t.place.toList.length := by
    rw [Array.length_toList, R.psz]
    exact hi
  obtain ⟨T, em, el, epl, ef⟩ := R.tab.drop (List.getElem?_eq_getElem hil)
  have hrows : (SetTable.eraseAt es i).toList = rowsOf P w (L.eraseIdx i) := by rw [toList_erase, rows_erase, R.rows]
  have hlen : (L.eraseIdx i).length ≤ L.length := List.length_eraseIdx_le _ _
  have hmk := mk_le R.tab.msk
  have hLf : L.length ≤ t.fill := by
    rw [← R.psz]
    exact Nat.le_add_right _ _
  refine wpAny_bind (wpAny_storeSet_of ho hd ?_ (by rw [rows_size hrows, sizeLine_eq]; omega))
  have sb : Heap.SameBut a s.heap (s.heap.update a (Obj.putSet (SetTable.eraseAt es i) (t.drop i))) := Heap.SameBut.update ..
  refine wpAny_bind (wpAny_point (wpAny_pure ?_))
  refine hin (List.mem_map.mpr ⟨p, List.mem_of_getElem? hp, hk⟩) _ (L.eraseIdx i) _ (ep + 1) (t.drop i) sb ⟨⟨_, store_at ho hd, ⟨hex.1, hex.2.1, hex.2.2⟩, rfl⟩, hrows, ?_, ?_, fun q hq => isT_same (R.tup q (List.mem_of_mem_eraseIdx hq)) ho hd sb, by rw [epl]; exact R.plain, by rw [el]; exact R.led, by rw [ef, em]; exact hroom⟩ (fun q => by rw [← hk]; exact mem_eraseK R.nd hp) ef
  · rw [← erase_map]
    exact T
  · rw [← erase_map]
    exact List.Pairwise.sublist (List.eraseIdx_sublist _ _) R.nd
/-- the members in the order of a walk -/
theorem walk_at (R : SetQ P w s.heap a L es ep t) {Q : Array (Int × Value) → Shared → Prop} (hQ : ∀ ws : Array (Int × Value), ws.toList.Perm es.toList → Q ws s) : wpAny (model P w) A (setWalk a) Q E s := by
  obtain ⟨o, ho, hex, hd⟩ := R.ob
  have hpl := R.plain
  unfold setWalk
  refine wpAny_bind (wpAny_setState_of ho hd R.fits ?_)
  dsimp only
  refine wpAny_bind (wpAny_byText ?_)
  by_cases c : w.params.followText "set-order" = true
  · refine wp_if_pos c ?_
    exact wpAny_bind (wpAny_askSetting (wpAny_pure (hQ _ (pick_perm _ es))))
  · refine wp_if_neg c ?_
    try refine wpAny_bind (wpAny_pure ?_)
    have hl : t.led = true := R.led.resolve_left c
    refine wp_if_neg (show ¬ ((!t.plain && decide (es.size > 1)) = true) by rw [hpl]; exact Bool.false_ne_true) ?_
    try refine wpAny_bind (wpAny_pure ?_)
    refine wpAny_bind ?_
    show wpAny _ _ (if (!t.led && decide (es.size > 1)) = true then unsupported "set:maker-not-led" else pure ()) _ _ s
    refine wp_if_neg (by rw [hl]; simp) ?_
    exact wpAny_pure (wpAny_pure (hQ es (List.Perm.refl _)))
theorem walk_unseen (R : SetQ P w s.heap a L es ep t) {others : List Addr} {filled : Option Addr} {Q : Array (Int × Value) → Shared → Prop} (hQ : ∀ ws : Array (Int × Value), ws.toList.Perm es.toList → Q ws s) :
    wpAny (model P w) A (setWalkUnseen a others filled) Q E s := by
  obtain ⟨o, ho, hex, hd⟩ := R.ob
  unfold setWalkUnseen
  refine wpAny_bind (wpAny_setState_of ho hd R.fits ?_)
  dsimp only
  refine wpAny_bind (wpAny_byText ?_)
  refine wp_if_pos ?_ (walk_at R hQ)
  rw [R.plain]
  rcases R.led with z | z
  · rw [z]
    rfl
  · rw [z]
    simp
theorem any_set {x : Addr} {o : Obj} (ho : s.heap.get? x = some o) (hc : o.cls = .type "set") {Q : Bool → Shared → Prop} (h : Q true s) : wpAny (model P w) A (Builtin.Frozenset.isAnySet (.ref x)) Q E s := by
  unfold Builtin.Frozenset.isAnySet
  unfold orM
  refine wpAny_bind (wpAny_isInstance (b := true) ⟨o, ho, hc⟩ sub_set_self ?_)
  exact wpAny_pure h
theorem base_set {x : Addr} {o : Obj} (ho : s.heap.get? x = some o) (hc : o.cls = .type "set") {Q : Value → Shared → Prop} (h : Q (.type "set") s) : wpAny (model P w) A (Builtin.Frozenset.baseOf x) Q E s := by
  unfold Builtin.Frozenset.baseOf
  refine wpAny_bind (wpAny_isInstance (b := true) ⟨o, ho, hc⟩ sub_set_self ?_)
  exact wpAny_pure h
theorem room_at (R : SetQ P w s.heap a [] #[] ep t) (hf : t.fill = 0) {n : Nat} (hn : n < 150) {Q : Unit → Shared → Prop}
    (hQ : ∀ h' ep' t', Heap.SameBut a s.heap h' → SetQ P w h' a [] #[] ep' t' → t'.fill = 0 → n * 5 < t'.mask * 3 → Q () { s with heap := h' }) : wpAny (model P w) A (setRoomFor a n) Q E s := by
  obtain ⟨o, ho, hex, hd⟩ := R.ob
  have hp0 : t.place.size = 0 := R.psz
  unfold setRoomFor
  refine wpAny_bind (wpAny_setState_of ho hd R.fits ?_)
  dsimp only
  by_cases c : (t.fill + n) * 5 ≥ t.mask * 3
  · have e : t.roomFor n = some ((t.place.size + n) * 2) := if_pos c
    rw [e]
    dsimp only
    rw [hp0, Nat.zero_add]
    obtain ⟨g1, g2, g3⟩ := room_mk n hn
    refine relay_at ho hex hd R.rows R.psz (by rw [hf]; exact Nat.zero_le _) R.nd R.tup R.plain R.led g1 g2 (by show 0 * 5 < _; omega) fun h' L' es' ep' t' sb R' pm ef em => ?_
    have e1 : L' = [] := pm.eq_nil
    subst e1
    have e2 : es' = #[] := Array.eq_empty_of_size_eq_zero R'.size
    subst e2
    exact hQ h' ep' t' sb R' ef (by rw [em]; exact g3)
  · have e : t.roomFor n = none := if_neg c
    rw [e]
    dsimp only
    refine wpAny_pure (hQ s.heap ep t (Heap.SameBut.refl a s.heap) R hf (by omega))
theorem setMerge_eq (s o : Addr) (each : Sem Unit) : setMerge s o each = (do
    if s == o then return
    let (eo, epoch, to) ← setState o
    if eo.isEmpty then return
    setRoomFor s eo.size
    let (_, _, ts) ← setState s
    match ts.road to with
    | .slotForSlot => storeSet s eo { to with finger := ts.finger, led := ts.led && to.led, moves := ts.moves, plain := ts.plain && to.plain }
    | .clean =>
      let (es, t) ← (do
        let some (t, order) := SetTable.laid ts.mask ts.finger ts.moves (led := ts.led && to.led) (plain := ts.plain && to.plain) (eo.map (·.1)) | unsupported "internal:set-table-without-room"
        let es' := order.filterMap (eo[·]?)
        if es'.size != eo.size then unsupported "internal:set-table-lost-an-element"
        pure (es', t) : Sem (Array (Int × Value) × SetTable))
      storeSet s es t
    | .oneByOne =>
      for (h, x) in ← setWalkUnseen o [s] (some s) do
        let _ ← holding [x] (setAddHashed s x h)
        each
        if (← setState o).2.1 != epoch then unsupported "set.changed-during-merge") := by rfl
/-- one set into a new, empty one -/
theorem merge_at {b : Addr} (R : SetQ P w s.heap a [] #[] ep t) (hf : t.fill = 0) {Lo : List (Addr × List Int)} {eo : Array (Int × Value)} {epo : Nat} {to : SetTable} (Ro : SetQ P w s.heap b Lo eo epo to) (hn : Lo.length < 140) (ne : a ≠ b) {each : Sem Unit} {Q : Unit → Shared → Prop}
    (hQ : ∀ h' L' es' ep' t', Heap.SameBut a s.heap h' → SetQ P w h' a L' es' ep' t' → L'.Perm Lo → t'.fill ≤ to.fill → Q () { s with heap := h' }) : wpAny (model P w) A (setMerge a b each) Q E s := by
  rw [setMerge_eq]
  refine wp_if_neg (by rw [beq_iff_eq]; exact ne) ?_
  try refine wpAny_bind (wpAny_pure ?_)
  obtain ⟨oo, hoo, hexo, hdo⟩ := Ro.ob
  refine wpAny_bind (wpAny_setState_of hoo hdo Ro.fits ?_)
  dsimp only
  by_cases c : eo.isEmpty = true
  · refine wp_if_pos c (wpAny_pure ?_)
    have e1 : Lo = [] := List.eq_nil_of_length_eq_zero (by rw [← Ro.size]; exact Array.isEmpty_iff_size_eq_zero.mp c)
    subst e1
    exact hQ s.heap [] #[] ep t (Heap.SameBut.refl a s.heap) R (List.Perm.refl _) (by omega)
  · refine wp_if_neg c ?_
    try refine wpAny_bind (wpAny_pure ?_)
    refine wpAny_bind (room_at R hf (n := eo.size) (by rw [Ro.size]; omega) fun h1 ep1 t1 sb1 R1 hf1 hr1 => ?_)
    obtain ⟨o1, ho1, hex1, hd1⟩ := R1.ob
    have Ro1 : SetQ P w h1 b Lo eo epo to := ⟨⟨oo, (sb1.2 b fun z => ne z.symm).trans hoo, hexo, hdo⟩, Ro.rows, Ro.tab, Ro.nd, fun p hp => by
      obtain ⟨o0, ho0, _, hd0⟩ := R.ob
      exact isT_same (Ro.tup p hp) ho0 hd0 sb1, Ro.plain, Ro.led, Ro.room⟩
    refine wpAny_bind (wpAny_setState_of (s := { s with heap := h1 }) ho1 hd1 R1.fits ?_)
    dsimp only
    have ld : w.params.followText "set-order" = true ∨ (t1.led && to.led) = true := by
      rcases R1.led with z | z
      · exact .inl z
      · rcases Ro1.led with y | y
        · exact .inl y
        · exact .inr (by rw [z, y]; rfl)
    have pl : (t1.plain && to.plain) = true := by rw [R1.plain, Ro1.plain]; rfl
    have hmk := mk_le R1.tab.msk
    have hsz := Ro.size
    unfold SetTable.road
    rw [if_neg (by rw [hf1]; decide)]
    by_cases d : (t1.mask == to.mask && to.dummies.isEmpty) = true
    · rw [if_pos d]
      dsimp only
      refine wpAny_storeSet_of ho1 hd1 ?_ (by rw [sizeLine_eq]; omega)
      have sb : Heap.SameBut a h1 (h1.update a (Obj.putSet eo { to with finger := t1.finger, led := t1.led && to.led, moves := t1.moves, plain := t1.plain && to.plain })) := Heap.SameBut.update ..
      have T := Ro.tab
      exact hQ _ Lo eo (ep1 + 1) _ (sb1.trans sb) ⟨⟨_, store_at ho1 hd1, ⟨hex1.1, hex1.2.1, hex1.2.2⟩, rfl⟩, Ro.rows, ⟨T.ris, T.rid, T.dj, T.sz, T.msk, T.bd, T.bdd, T.reach⟩, Ro.nd, fun p hp => isT_same (Ro1.tup p hp) ho1 hd1 sb, pl, ld, Ro.room⟩ (List.Perm.refl _) (Nat.le_refl _)
    · rw [if_neg d]
      dsimp only
      obtain ⟨t', order, e, hp, T, em, el, epl, ef⟩ := laid_ok (finger := t1.finger) (moves := t1.moves) (led := t1.led && to.led) (plain := t1.plain && to.plain) (hs := eo.map (·.1)) R1.tab.msk (by rw [Array.size_map]; omega)
      rw [Array.size_map, hsz] at hp ef
      obtain ⟨L2, r1, r2, r3⟩ := order_rows Lo eo order Ro.rows hp
      rw [← r3] at T
      have hs2 : (order.filterMap (eo[·]?)).size = eo.size := by rw [rows_size r1, r2.length_eq, hsz]
      rw [e]
      dsimp only
      refine wpAny_bind ?_
      refine wp_if_neg (by rw [hs2]; simp) ?_
      try refine wpAny_bind (wpAny_pure ?_)
      refine wpAny_pure ?_
      dsimp only
      refine wpAny_storeSet_of ho1 hd1 ?_ (by rw [hs2, sizeLine_eq]; omega)
      have sb : Heap.SameBut a h1 (h1.update a (Obj.putSet (order.filterMap (eo[·]?)) t')) := Heap.SameBut.update ..
      exact hQ _ L2 _ (ep1 + 1) t' (sb1.trans sb) ⟨⟨_, store_at ho1 hd1, ⟨hex1.1, hex1.2.1, hex1.2.2⟩, rfl⟩, r1, T, (r2.map (·.2)).nodup_iff.mpr Ro.nd, fun p hp => isT_same (Ro1.tup p (r2.mem_iff.mp hp)) ho1 hd1 sb, by rw [epl]; exact pl, by rw [el]; exact ld, by rw [ef, em]; rw [hsz] at hr1; exact hr1⟩ r2 (by rw [ef, ← Ro.psz]; exact Nat.le_add_right _ _)
end
end Sx

set_option Elab.async false
set_option linter.all false
set_option maxRecDepth 100000
namespace Sx
open PySem PySem.Spec PyProof.Rows L2
section
variable {P : Program} {w : World} {A : Around} {E : Value → Shared → Prop} {s : Shared}
theorem SetQ.keep {h h' : Heap} {a : Addr} {L : List (Addr × List Int)} {es : Array (Int × Value)} {ep : Nat} {t : SetTable} (R : SetQ P w h a L es ep t) (ha : ∀ o, h.get? a = some o → h'.get? a = some o) (ht : ∀ p ∈ L, IsT P w h' p.2 p.1) : SetQ P w h' a L es ep t := by
  obtain ⟨o, ho, r⟩ := R.ob
  exact ⟨⟨o, ha o ho, r⟩, R.rows, R.tab, R.nd, ht, R.plain, R.led, R.room⟩
theorem setQ_new {h : Heap} {a : Addr} (ho : h.get? a = some { cls := .type "set", dict := none, data := .set #[] 0 (.fresh 0 0 (!w.params.followText "set-order")) }) : SetQ P w h a [] #[] 0 (.fresh 0 0 (!w.params.followText "set-order")) where
  ob := ⟨_, ho, ⟨rfl, rfl, rfl⟩, rfl⟩
  rows := rfl
  tab := ⟨List.Pairwise.nil, List.Pairwise.nil, fun x hx => (by cases hx), rfl, .inl rfl, fun x hx => (by cases hx), fun x hx => (by cases hx), fun i h j hi => (by simp at hi)⟩
  nd := List.nodup_nil
  tup := fun p hp => (by cases hp)
  plain := rfl
  led := by
    show _ ∨ (!w.params.followText "set-order") = true
    cases w.params.followText "set-order"
    · exact .inr rfl
    · exact .inl rfl
  room := by
    show 0 * 5 < 7 * 3
    decide
/-- the loop of set.update -/
theorem update_loop {I : Addr} {fp wr : List Addr} {G : Array GenState → Array GenState → Prop} {n : Nat} {Pv : Nat → Value → Prop} {St : Nat → Shared → Prop} {R : Result → Shared → Prop}
    (W : WalksS P w A.in1 I fp wr G n Pv St) (S : Addr) (hSf : S ∉ fp) (ks : List (Addr × List Int)) (hn : n = ks.length) (hfew : ks.length < 140) (hval : ∀ i v, Pv i v → ∃ p, ks[i]? = some p ∧ v = .ref p.1)
    (h0 : Heap) (hk : ∀ p ∈ ks, IsT P w h0 p.2 p.1) (hS0 : h0.get? S = none) (hw0 : ∀ b ∈ wr, h0.get? b = none) (hu : A.in1.units < cLine) :
    ∀ (k i : Nat) (s : Shared), n - i = k → i ≤ n → St i s → (∀ b o, h0.get? b = some o → s.heap.get? b = some o) → (∃ L es ep t, SetQ P w s.heap S L es ep t ∧ Got ks i L ∧ t.fill ≤ i) →
      (∀ s' L es ep t, Moved (S :: wr) G s s' → SetQ P w s'.heap S L es ep t → Got ks n L → t.fill ≤ n → (∀ b o, h0.get? b = some o → s'.heap.get? b = some o) → R (.ok (.ret .none)) s') →
      codeAny (model P w) A (.builtin "set.update.loop" ⟨[.ref S, .ref I], []⟩) R s := by
  have hSw : S ∉ wr := fun h => hSf (W.sub _ h)
  have hsub : ∀ b ∈ wr, b ∈ S :: wr := fun b hb => List.mem_cons_of_mem _ hb
  have keepM : ∀ {s s' : Shared}, Moved wr G s s' → (∀ b o, h0.get? b = some o → s.heap.get? b = some o) → ∀ b o, h0.get? b = some o → s'.heap.get? b = some o := fun hm hkp b o e =>
    hm.heap b o (fun hb => by rw [hw0 b hb] at e; cases e) (hkp b o e)
  intro k
  induction k with
  | zero =>
    intro i s hk' hi hst hkp ⟨L, es, ep, t, hS, g, hf⟩ hR
    have hin : i = n := by omega
    subst hin
    refine codeAny_builtin F.entry_set_update_loop ?_
    rw [Around.under_plainId F.plain_set_update_loop _]
    show wpAny _ A.in1 (pyNext (.ref I) >>= _) _ _ s
    refine wpAny_bind (W.done s _ _ hst fun s' hm => ?_)
    show wpAny _ A.in1 (ret Value.none) _ _ s'
    have hkp' := keepM hm hkp
    exact wpAny_pure (hR s' L es ep t (hm.mono hsub) (hS.keep (fun o e => hm.heap S o hSw e) fun p hp => isT_kept (hk p (List.mem_of_mem_take (g.sub p hp))) hkp') g hf hkp')
  | succ k ih =>
    intro i s hk' hi hst hkp ⟨L, es, ep, t, hS, g, hf⟩ hR
    have hlt : i < n := by omega
    refine codeAny_builtin F.entry_set_update_loop ?_
    rw [Around.under_plainId F.plain_set_update_loop _]
    show wpAny _ A.in1 (pyNext (.ref I) >>= _) _ _ s
    refine wpAny_bind (W.item i s _ _ hlt hst fun v s' hP hst' hm => ?_)
    obtain ⟨p, hp, rfl⟩ := hval i v hP
    have hkp' := keepM hm hkp
    have hS' : SetQ P w s'.heap S L es ep t := hS.keep (fun o e => hm.heap S o hSw e) fun q hq => isT_kept (hk q (List.mem_of_mem_take (g.sub q hq))) hkp'
    have hx : IsT P w s'.heap p.2 p.1 := isT_kept (hk p (List.mem_of_getElem? hp)) hkp'
    show wpAny _ A.in1 (holding [Value.ref p.1] (setAdd S (.ref p.1)) >>= _) _ _ s'
    refine wpAny_bind (wpAny_holding ?_)
    unfold setAdd
    refine wpAny_holding ?_
    refine wpAny_bind (wpAny_pyHash_tuple hu hx ?_)
    refine add_at (s := { s' with toks := s'.toks + (p.2.length + 1) }) hS' hx hu (by omega) fun b h' L' es' ep' t' hsb hS2 c1 c2 hf2 => ?_
    have g' : Got ks (i + 1) L' := by
      rcases Classical.em (p.2 ∈ L.map (·.2)) with c | c
      · rw [c1 c]
        exact g.same hp c
      · exact g.more hp (c2 c)
    have hkp2 : ∀ b o, h0.get? b = some o → h'.get? b = some o := fun b o e => (hsb.2 b (fun z => by rw [z, hS0] at e; cases e)).trans (hkp' b o e)
    refine wpAny_pure ⟨plainId_quiet F.plain_set_update_loop _, ih (i + 1) _ (by omega) hlt (W.frame _ s' _ _ hst' (Nat.le_add_right _ _) fun b hb o e => ?_) hkp2 ⟨L', es', ep', t', hS2, g', by omega⟩ fun s'' L2 es2 ep2 t2 hm'' hS'' g'' hf'' hkp'' => ?_⟩
    · rw [hsb.2 b (fun h : b = S => hSf (by rw [← h]; exact hb))]
      exact e
    · refine hR s'' L2 es2 ep2 t2 (Moved.trans W.gtrans ((hm.mono hsub).then_heap (Nat.le_add_right _ _) fun b o hb e => ?_) hm'') hS'' g'' hf'' hkp''
      rw [hsb.2 b (fun h : b = S => hb (by rw [h]; exact List.mem_cons_self))]
      exact e
set_option maxHeartbeats 3200000 in
theorem call_setL {l : Addr} {items : Array Value} (ks : List (Addr × List Int)) {Q : Value → Shared → Prop} (hh : A.handled = none) (hl : s.heap.IsList l items) (hit : items.toList = ks.map fun p => Value.ref p.1)
    (hk : ∀ p ∈ ks, IsT P w s.heap p.2 p.1) (hfew : ks.length < 140) (hu : A.units + 3 < cLine)
    (h : ∀ (h' : Heap) (tk : Nat) L es ep t, SetQ P w h' s.heap.objs.size L es ep t → Got ks ks.length L → t.fill ≤ ks.length → (∀ b o, s.heap.get? b = some o → h'.get? b = some o) → Q (.ref s.heap.objs.size) { s with heap := h', toks := tk }) :
    wpAny (model P w) A (call (.type "set") [.ref l]) Q E s := by
  have hisz : items.size = ks.length := by
    have q := congrArg List.length hit
    rw [Array.length_toList, List.length_map] at q
    exact q
  obtain ⟨c, tl, hmro⟩ := F.called_set.mro
  have hmade := F.called_set.made
  have hsub := F.called_set.sub
  refine wpAny_call (codeAny_of_tree ?_)
  show wpAny _ _ (callAny (.type "set") _) _ _ _
  refine wpAny_pure ⟨Code.quiet_builtin _ (by decide +kernel), codeAny_builtin F.entry_type_call ?_⟩
  rw [Around.under_plain (weight_type_call_type "set" [.ref l] []) rfl]
  have h1 := F.called_set.notType
  have h2 := F.called_set.canCreate
  have hct := F.typeCall_set_1 (.ref l)
  repeat (any_goals (first | assumption | wp_step))
  refine codeAny_mono (code_set_led1 (.ref l) (E := E) (Q₁ := fun obj s₁ => obj = .ref s.heap.objs.size ∧ s₁ = { s with heap := s.heap.push { cls := .type "set", dict := none, data := .set #[] 0 (.fresh 0 0 (!w.params.followText "set-order")) } }) ⟨rfl, rfl⟩) fun r s₁ hr => ?_
  cases r with
  | error e => exact hr
  | ok fl =>
    cases fl with
    | ret obj =>
      obtain ⟨rfl, rfl⟩ := hr
      have hS : (s.heap.push { cls := .type "set", dict := none, data := .set #[] 0 (.fresh 0 0 (!w.params.followText "set-order")) }).get? s.heap.objs.size = some { cls := .type "set", dict := none, data := .set #[] 0 (.fresh 0 0 (!w.params.followText "set-order")) } := Heap.get?_push_size _ rfl
      have hT : Shared.TypeIs { s with heap := s.heap.push { cls := .type "set", dict := none, data := .set #[] 0 (.fresh 0 0 (!w.params.followText "set-order")) } } (.ref s.heap.objs.size) "set" := ⟨_, hS, rfl⟩
      have hli := F.called_set.init.lookup
      have hbi := F.called_set.init.bind (.ref s.heap.objs.size)
      repeat (any_goals (first | assumption | wp_step))
      refine codeAny_mono (codeAny_call_builtin (R := wants (fun r s₂ => r = .none ∧ ∃ h' tk L es ep t, s₂ = { s with heap := h', toks := tk } ∧ SetQ P w h' s.heap.objs.size L es ep t ∧ Got ks ks.length L ∧ t.fill ≤ ks.length ∧
          (∀ b o, s.heap.get? b = some o → h'.get? b = some o)) E) F.called_set.init.plain F.entry_set_init (check_set_init_1 hT ?_)) fun r₂ s₂ hr₂ => ?_
      · obtain ⟨ol, hol, hcl, nl, hdl⟩ := hl
        obtain ⟨ocls, odict, odata, oslots⟩ := ol
        simp only at hcl hdl
        subst hcl; subst hdl
        have hol' : (s.heap.push { cls := .type "set", dict := none, data := .set #[] 0 (.fresh 0 0 (!w.params.followText "set-order")) }).get? l = some { cls := .type "list", dict := odict, data := .seq items nl, slots := oslots } := Heap.get?_push_of_some _ hol
        have hsls := F.sub_list_set
        have hslf := F.sub_list_frozenset
        have hne : (Value.type "list" == Value.type "dict") = false := by decide
        have hl1 : (s.heap.push { cls := .type "set", dict := none, data := .set #[] 0 (.fresh 0 0 (!w.params.followText "set-order")) }).IsList l items := ⟨_, hol', rfl, nl, rfl⟩
        unfold Builtin.«set.__init__» noKeywords Builtin.Frozenset.updateFrom
        generalize hPI : pyIter = PI
        wp_walk
        subst hPI
        refine wpAny_pyIter_list hl1 ?_
        refine wpAny_bind (wpAny_runValue ?_)
        have hlS : l < s.heap.objs.size := Heap.lt_size hol
        have hh3 : A.in1.in1.in1.handled = none := by simp [hh]
        have hneI : l ≠ (s.heap.push { cls := .type "set", dict := none, data := .set #[] 0 (.fresh 0 0 (!w.params.followText "set-order")) }).objs.size := by
          rw [Heap.size_push]; exact Nat.ne_of_lt (Nat.lt_succ_of_lt hlS)
        have hSf : s.heap.objs.size ∉ [(s.heap.push { cls := .type "set", dict := none, data := .set #[] 0 (.fresh 0 0 (!w.params.followText "set-order")) }).objs.size, l] := by
          rw [Heap.size_push]; simp only [List.mem_cons, List.mem_singleton, List.not_mem_nil, or_false, not_or]
          exact ⟨Nat.ne_of_lt (Nat.lt_succ_self _), Nat.ne_of_gt hlS⟩
        have hval : ∀ (i : Nat) (v : Value), items[i]? = some v → ∃ p, ks[i]? = some p ∧ v = .ref p.1 := fun i v hv => by
          have q : items.toList[i]? = some v := by rw [Array.getElem?_toList]; exact hv
          rw [hit, List.getElem?_map] at q
          cases hq : ks[i]? with
          | none => rw [hq] at q; cases q
          | some p =>
            rw [hq] at q
            exact ⟨p, rfl, (Option.some.inj q).symm⟩
        have none_of : ∀ b, s.heap.objs.size ≤ b → s.heap.get? b = none := fun b hb => by
          cases q : s.heap.get? b with
          | none => rfl
          | some o => exact absurd (Nat.lt_of_lt_of_le (Heap.lt_size q) hb) (Nat.lt_irrefl _)
        refine update_loop ((Walks.list hh3 _ l hneI items).toS) s.heap.objs.size
          hSf ks hisz hfew hval s.heap hk (none_of _ (Nat.le_refl _)) (fun b hb => none_of b (by
            rw [List.mem_singleton.mp hb, Heap.size_push]
            exact Nat.le_succ _)) hu (items.size - 0) 0 _ (by omega) (Nat.zero_le _)
          ⟨⟨_, Heap.get?_push_size _ rfl, rfl, rfl⟩, (hl1.push _)⟩ (fun b o e => Heap.get?_push_of_some _ (Heap.get?_push_of_some _ e)) ?hS0 ?hR
        case hS0 =>
          have hget : ((s.heap.push { cls := .type "set", dict := none, data := .set #[] 0 (.fresh 0 0 (!w.params.followText "set-order")) }).push { cls := .type "list_iterator", data := .fields #[.ref l, .int 0 0] }).get? s.heap.objs.size
              = some { cls := .type "set", dict := none, data := .set #[] 0 (.fresh 0 0 (!w.params.followText "set-order")) } := Heap.get?_push_of_some _ hS
          exact ⟨[], #[], 0, _, setQ_new hget, Got.zero ks, Nat.le_refl _⟩
        case hR =>
          intro s' L es ep t hm hS' g' hf hkp
          obtain ⟨h', g2, d', tk', os'⟩ := s'
          have eg : g2 = s.gens := hm.gens
          have ed : d' = s.drawn := hm.drawn
          have eo : os' = s.os := hm.os
          subst eg; subst ed; subst eo
          show wpAny _ _ _ _ _ _
          refine wpAny_pure ?_
          show wpAny _ _ (ret Value.none) _ _ _
          rw [hisz] at g' hf
          exact wpAny_pure ⟨rfl, h', tk', L, es, ep, t, rfl, hS', g', hf, hkp⟩
      · cases r₂ with
        | error e => exact hr₂
        | ok fl₂ =>
          cases fl₂ with
          | ret r =>
            obtain ⟨rfl, h', tk, L, es, ep, t, rfl, hS', g', hf, hk'⟩ := hr₂
            repeat (any_goals (first | assumption | wp_step))
            exact h _ _ _ _ _ _ hS' g' hf hk'
          | _ => exact hr₂.elim
    | _ => exact hr.elim
/-- what stands in L' once all of D, among the members of LA, are told off against LB -/
structure Dif (LB LA : List (Addr × List Int)) (D : List (List Int)) (L' : List (Addr × List Int)) : Prop where
  sub : ∀ q ∈ L', (q ∈ LB ∧ q.2 ∉ D) ∨ (q ∈ LA ∧ q.2 ∈ D ∧ q.2 ∉ LB.map (·.2))
  old : ∀ q ∈ LB, q.2 ∉ D → q.2 ∈ L'.map (·.2)
  new : ∀ q ∈ LA, q.2 ∈ D → q.2 ∉ LB.map (·.2) → q.2 ∈ L'.map (·.2)
theorem Dif.start {LB LA L' : List (Addr × List Int)} (pm : L'.Perm LB) : Dif LB LA [] L' := ⟨fun q hq => .inl ⟨pm.mem_iff.mp hq, by simp⟩, fun q hq _ => List.mem_map.mpr ⟨q, pm.mem_iff.mpr hq, rfl⟩, fun q _ h => by cases h⟩
theorem Dif.out {LB LA : List (Addr × List Int)} {D : List (List Int)} {L' L2 : List (Addr × List Int)} {k : List Int} (d : Dif LB LA D L') (hin : k ∈ L'.map (·.2)) (hD : k ∉ D) (h : ∀ q, q ∈ L2 ↔ q ∈ L' ∧ q.2 ≠ k) : Dif LB LA (k :: D) L2 := by
  have kb : k ∈ LB.map (·.2) := by
    obtain ⟨q, hq, e⟩ := List.mem_map.mp hin
    rcases d.sub q hq with ⟨a, _⟩ | ⟨_, a, _⟩
    · exact List.mem_map.mpr ⟨q, a, e⟩
    · rw [e] at a
      exact absurd a hD
  refine ⟨fun q hq => ?_, fun q hq hn => ?_, fun q hq hn hb => ?_⟩
  · obtain ⟨a, b⟩ := (h q).mp hq
    rcases d.sub q a with ⟨x, y⟩ | ⟨x, y, z⟩
    · exact .inl ⟨x, fun c => (List.mem_cons.mp c).elim b y⟩
    · exact .inr ⟨x, List.mem_cons_of_mem _ y, z⟩
  · obtain ⟨r, hr, e⟩ := List.mem_map.mp (d.old q hq fun c => hn (List.mem_cons_of_mem _ c))
    exact List.mem_map.mpr ⟨r, (h r).mpr ⟨hr, fun c => hn (by rw [← e, c]; exact List.mem_cons_self)⟩, e⟩
  · have hne : q.2 ≠ k := fun c => hb (by rw [c]; exact kb)
    have hd : q.2 ∈ D := (List.mem_cons.mp hn).resolve_left hne
    obtain ⟨r, hr, e⟩ := List.mem_map.mp (d.new q hq hd hb)
    exact List.mem_map.mpr ⟨r, (h r).mpr ⟨hr, by rw [e]; exact hne⟩, e⟩
theorem Dif.put {LB LA : List (Addr × List Int)} {D : List (List Int)} {L' L2 : List (Addr × List Int)} {p : Addr × List Int} (d : Dif LB LA D L') (hin : p.2 ∉ L'.map (·.2)) (hD : p.2 ∉ D) (hp : p ∈ LA) (pm : L2.Perm (p :: L')) : Dif LB LA (p.2 :: D) L2 := by
  have kb : p.2 ∉ LB.map (·.2) := fun c => by
    obtain ⟨q, hq, e⟩ := List.mem_map.mp c
    have e : q.2 = p.2 := e
    exact hin (by rw [← e]; exact d.old q hq (by rw [e]; exact hD))
  have up : ∀ {k : List Int}, k ∈ L'.map (·.2) → k ∈ L2.map (·.2) := fun {k} h => by
    obtain ⟨r, hr, e⟩ := List.mem_map.mp h
    exact List.mem_map.mpr ⟨r, pm.mem_iff.mpr (List.mem_cons_of_mem _ hr), e⟩
  refine ⟨fun q hq => ?_, fun q hq hn => up (d.old q hq fun c => hn (List.mem_cons_of_mem _ c)), fun q hq hn hb => ?_⟩
  · rcases List.mem_cons.mp (pm.mem_iff.mp hq) with e | hq
    · subst e
      exact .inr ⟨hp, List.mem_cons_self, kb⟩
    · rcases d.sub q hq with ⟨x, y⟩ | ⟨x, y, z⟩
      · refine .inl ⟨x, fun c => (List.mem_cons.mp c).elim (fun c => kb ?_) y⟩
        rw [← c]
        exact List.mem_map.mpr ⟨q, x, rfl⟩
      · exact .inr ⟨x, List.mem_cons_of_mem _ y, z⟩
  · rcases List.mem_cons.mp hn with e | hn
    · exact List.mem_map.mpr ⟨p, pm.mem_iff.mpr List.mem_cons_self, e.symm⟩
    · exact up (d.new q hq hn hb)
end
end Sx

set_option Elab.async false
set_option linter.all false
set_option maxRecDepth 100000
namespace Sx
open PySem PySem.Spec PyProof.Rows L2
theorem perm_of_map {α β : Type} (f : α → β) : ∀ {l : List β} {m : List β}, l.Perm m → ∀ L : List α, m = L.map f → ∃ L' : List α, L'.Perm L ∧ l = L'.map f := by
  intro l m p
  induction p with
  | nil =>
    intro L e
    exact ⟨L, List.Perm.refl _, e⟩
  | cons x _ ih =>
    intro L e
    cases L with
    | nil => cases e
    | cons y L =>
      rw [List.map_cons] at e
      injection e with e1 e2
      obtain ⟨L', p', e'⟩ := ih L e2
      exact ⟨y :: L', p'.cons y, by rw [List.map_cons, ← e', e1]⟩
  | swap x y l =>
    intro L e
    match L, e with
    | a :: b :: L, e =>
      rw [List.map_cons, List.map_cons] at e
      injection e with e1 e2
      injection e2 with e2 e3
      exact ⟨b :: a :: L, List.Perm.swap a b L, by rw [List.map_cons, List.map_cons, e1, e2, e3]⟩
  | trans _ _ ih1 ih2 =>
    intro L e
    obtain ⟨L1, p1, e1⟩ := ih2 L e
    obtain ⟨L2, p2, e2⟩ := ih1 L1 e1
    exact ⟨L2, p2.trans p1, e2⟩
section
variable {P : Program} {w : World} {A : Around} {E : Value → Shared → Prop} {s : Shared}
theorem epoch_at {a : Addr} {L : List (Addr × List Int)} {es : Array (Int × Value)} {ep : Nat} {t : SetTable} {o : Obj} (ho : s.heap.get? a = some o) (hd : o.data = .set es ep t) (hf : t.fits es.size = true) {Q : Nat → Shared → Prop} (h : Q ep s) : wpAny (model P w) A (setEpoch a) Q E s := by
  unfold setEpoch
  exact wpAny_bind (wpAny_setState_of ho hd hf (wpAny_pure h))
theorem symdiff_at {S b : Addr} {LB LA : List (Addr × List Int)} {L0 : List (Addr × List Int)} {es : Array (Int × Value)} {ep : Nat} {t : SetTable} {ea : Array (Int × Value)} {epa : Nat} {ta : SetTable} (id : String)
    (R : SetQ P w s.heap S L0 es ep t) (pm : L0.Perm LB) (hf : t.fill + LA.length < 140) (Ra : SetQ P w s.heap b LA ea epa ta) (ne : b ≠ S) (hu : A.units < cLine) {Q : Unit → Shared → Prop}
    (hQ : ∀ h' L' es' ep' t', Heap.SameBut S s.heap h' → SetQ P w h' S L' es' ep' t' → (∀ q ∈ L', (q ∈ LB ∧ q.2 ∉ LA.map (·.2)) ∨ (q ∈ LA ∧ q.2 ∉ LB.map (·.2))) → (∀ q ∈ LB, q.2 ∉ LA.map (·.2) → q.2 ∈ L'.map (·.2)) → (∀ q ∈ LA, q.2 ∉ LB.map (·.2) → q.2 ∈ L'.map (·.2)) → t'.fill < 140 → Q () { s with heap := h' }) :
    wpAny (model P w) A (Builtin.Frozenset.symmetricDifferenceUpdate id S (.ref b)) Q E s := by
  obtain ⟨ob, hob, hexb, hdb⟩ := Ra.ob
  unfold Builtin.Frozenset.symmetricDifferenceUpdate
  refine wp_if_neg (by simp [ne]) ?_
  try refine wpAny_bind (wpAny_pure ?_)
  refine wpAny_bind (wpAny_typeOf (T := "set") ⟨ob, hob, hexb.1⟩ ?_)
  refine wp_if_neg (by decide) ?_
  try refine wpAny_bind (wpAny_pure ?_)
  refine wpAny_bind (any_set hob hexb.1 ?_)
  refine wpAny_bind (wpAny_pure ?_)
  refine wpAny_bind (wpAny_pure ?_)
  refine wpAny_bind (epoch_at (L := LA) hob hdb Ra.fits ?_)
  refine wpAny_holding ?_
  refine wpAny_bind (walk_unseen Ra fun ws pw => ?_)
  obtain ⟨LW, pLW, eLW⟩ := perm_of_map (fun p : Addr × List Int => (thash P w p.2, Value.ref p.1)) pw LA Ra.rows
  have ndW : (LW.map (·.2)).Nodup := (pLW.map (·.2)).nodup_iff.mpr Ra.nd
  refine wpAny_bind ?_
  show wpAny _ _ (forIn ws _ _) _ _ s
  rw [← Array.forIn_toList]
  refine wpAny_forIn_list _ (fun rest _ s' => s' = { s with heap := s'.heap } ∧ Heap.SameBut S s.heap s'.heap ∧ ∃ (LR : List (Addr × List Int)) (D : List (List Int)) (L2 : List (Addr × List Int)) (es2 : Array (Int × Value)) (ep2 : Nat) (t2 : SetTable),
    rest = rowsOf P w LR ∧ SetQ P w s'.heap S L2 es2 ep2 t2 ∧ Dif LB LA D L2 ∧ t2.fill + LR.length < 140 ∧ (LR.map (·.2)).Nodup ∧ (∀ q ∈ LR, q ∈ LA ∧ q.2 ∉ D) ∧ (∀ q ∈ LA, q.2 ∈ D ∨ q ∈ LR) ∧ ∀ k ∈ D, k ∈ LA.map (·.2)) _ ?_ ?_ _ _ ?_
  · rintro v rest r s' ⟨es', sb, LR, D, L2, es2, ep2, t2, er, R2, d, hf2, nd2, hL, hA, hDA⟩
    match LR, er with
    | p :: LR, er =>
    have er : v :: rest = (thash P w p.2, Value.ref p.1) :: rowsOf P w LR := er
    injection er with e1 e2
    subst e1
    rw [List.map_cons] at nd2
    obtain ⟨hnk, nd3⟩ := List.nodup_cons.mp nd2
    rw [List.length_cons] at hf2
    obtain ⟨hpA, hpD⟩ := hL p List.mem_cons_self
    obtain ⟨o0, ho0, hex0, hd0⟩ := R.ob
    have hx : IsT P w s'.heap p.2 p.1 := isT_same (Ra.tup p hpA) ho0 hd0 sb
    have hL' : ∀ q ∈ LR, q ∈ LA ∧ q.2 ∉ p.2 :: D := fun q hq => by
      obtain ⟨a, c⟩ := hL q (List.mem_cons_of_mem _ hq)
      refine ⟨a, fun z => ?_⟩
      rcases List.mem_cons.mp z with z | z
      · exact hnk (by rw [← z]; exact List.mem_map.mpr ⟨q, hq, rfl⟩)
      · exact c z
    have hA' : ∀ q ∈ LA, q.2 ∈ p.2 :: D ∨ q ∈ LR := fun q hq => by
      rcases hA q hq with z | z
      · exact .inl (List.mem_cons_of_mem _ z)
      · rcases List.mem_cons.mp z with z | z
        · rw [z]
          exact .inl List.mem_cons_self
        · exact .inr z
    have hDA' : ∀ k ∈ p.2 :: D, k ∈ LA.map (·.2) := fun k hk => by
      rcases List.mem_cons.mp hk with z | z
      · rw [z]
        exact List.mem_map.mpr ⟨p, hpA, rfl⟩
      · exact hDA k z
    -- what follows a turn's change
    have after : ∀ (h' : Heap) L3 es3 ep3 t3, Heap.SameBut S s'.heap h' → SetQ P w h' S L3 es3 ep3 t3 → Dif LB LA (p.2 :: D) L3 → t3.fill ≤ t2.fill + 1 → ∀ QQ : ForInStep PUnit → Shared → Prop,
        (∀ s' : Shared, (s' = { s with heap := s'.heap } ∧ Heap.SameBut S s.heap s'.heap ∧ ∃ (LR : List (Addr × List Int)) (D : List (List Int)) (L2 : List (Addr × List Int)) (es2 : Array (Int × Value)) (ep2 : Nat) (t2 : SetTable),
          rest = rowsOf P w LR ∧ SetQ P w s'.heap S L2 es2 ep2 t2 ∧ Dif LB LA D L2 ∧ t2.fill + LR.length < 140 ∧ (LR.map (·.2)).Nodup ∧ (∀ q ∈ LR, q ∈ LA ∧ q.2 ∉ D) ∧ (∀ q ∈ LA, q.2 ∈ D ∨ q ∈ LR) ∧ ∀ k ∈ D, k ∈ LA.map (·.2)) → QQ (.yield PUnit.unit) s') →
        wpAny (model P w) A (Builtin.Frozenset.unchanged id b epa >>= fun _ => pure (ForInStep.yield PUnit.unit)) QQ E { s' with heap := h' } := fun h' L3 es3 ep3 t3 sb2 R3 d3 hf3 QQ hQQ => by
      have sb3 := sb.trans sb2
      have hob3 : h'.get? b = some ob := (sb3.2 b ne).trans hob
      refine wpAny_bind ?_
      unfold Builtin.Frozenset.unchanged
      refine wpAny_bind (epoch_at (s := { s' with heap := h' }) (L := LA) hob3 hdb Ra.fits ?_)
      refine wp_if_neg (by simp) ?_
      refine wpAny_pure (wpAny_pure (hQQ _ ⟨?_, sb3, LR, p.2 :: D, L3, es3, ep3, t3, e2, R3, d3, by omega, nd3, hL', hA', hDA'⟩))
      rw [es']
    dsimp only
    refine wpAny_bind (wpAny_holding ?_)
    refine wpAny_bind (discard_at R2 hx hu (fun hm h' L3 es3 ep3 t3 sb2 R3 hq ef => ?_) fun hm => ?_)
    · refine wp_if_neg (by decide) (wpAny_pure ?_)
      exact after h' L3 es3 ep3 t3 sb2 R3 (d.out hm hpD hq) (by omega) _ fun s' z => z
    · refine wp_if_pos (by decide) ?_
      refine wpAny_bind (add_at R2 hx hu (by omega) fun bb h' L3 es3 ep3 t3 sb2 R3 c1 c2 ef => wpAny_pure ?_)
      exact after h' L3 es3 ep3 t3 sb2 R3 (d.put hm hpD hpA (c2 hm)) ef _ fun s' z => z
  · rintro r s' ⟨es', sb, LR, D, L2, es2, ep2, t2, er, R2, d, hf2, nd2, hL, hA, hDA⟩
    have e0 : LR = [] := by
      have z := congrArg List.length er
      unfold rowsOf at z
      rw [List.length_map] at z
      exact List.eq_nil_of_length_eq_zero z.symm
    subst e0
    have kD : ∀ k, k ∈ D ↔ k ∈ LA.map (·.2) := fun k => ⟨hDA k, fun h => by
      obtain ⟨q, hq, e⟩ := List.mem_map.mp h
      have e : q.2 = k := e
      rw [← e]
      exact (hA q hq).resolve_right (by simp)⟩
    rw [es']
    refine wpAny_pure ?_
    refine hQ s'.heap L2 es2 ep2 t2 sb R2 (fun q hq => ?_) (fun q hq hn => d.old q hq fun c => hn ((kD _).mp c)) (fun q hq hn => d.new q hq ((kD _).mpr (List.mem_map.mpr ⟨q, hq, rfl⟩)) hn) (by omega)
    rcases d.sub q hq with ⟨x, y⟩ | ⟨x, y, z⟩
    · exact .inl ⟨x, fun c => y ((kD _).mpr c)⟩
    · exact .inr ⟨x, z⟩
  · refine ⟨rfl, Heap.SameBut.refl S s.heap, LW, [], L0, es, ep, t, eLW, R, Dif.start pm, ?_, ndW, fun q hq => ⟨pLW.mem_iff.mp hq, by simp⟩, fun q hq => .inr (pLW.mem_iff.mpr hq), fun k hk => by cases hk⟩
    rw [pLW.length_eq]
    exact hf
theorem new_at {Q : Value → Shared → Prop} (h : Q (.ref s.heap.objs.size) { s with heap := s.heap.push { cls := .type "set", dict := none, data := .set #[] 0 (.fresh 0 0 (!w.params.followText "set-order")) } }) : wpAny (model P w) A (newSet (.type "set")) Q E s := by
  unfold newSet
  refine wpAny_bind (wpAny_byText ?_)
  dsimp only
  exact wpAny_newObj_type h
theorem entry_set_xor : entryFor table "set.__xor__" = some Builtin.«frozenset.__xor__» := entryFor_alias (id' := "frozenset.__xor__") (by kernel_rfl) rfl (by decide +kernel) (by kernel_rfl)
theorem xor_eq (a b : Addr) : Builtin.«frozenset.__xor__» ⟨[.ref a, .ref b], []⟩ = (do
    let (self, other) ← Builtin.Frozenset.slot1 "__xor__" ⟨[.ref a, .ref b], []⟩
    let (l, r) := if false then (other, self) else (self, other)
    if !(← Builtin.Frozenset.isAnySet l <&&> Builtin.Frozenset.isAnySet r) then rule s!"frozenset.{"__xor__"}.declined"; return ← ret .notImplemented
    ret (← (do
      let l ← Builtin.Frozenset.addrOf l
      let result ← Builtin.Frozenset.newFrom s!"frozenset.{"__xor__"}" (← Builtin.Frozenset.baseOf l) r
      holding [result] (Builtin.Frozenset.symmetricDifferenceUpdate s!"frozenset.{"__xor__"}" (← Builtin.Frozenset.addrOf result) (.ref l))
      return result : Sem Value))) := rfl
end
end Sx

set_option Elab.async false
set_option linter.all false
set_option maxRecDepth 100000
namespace Sx
open PySem PySem.Spec PyProof.Rows L2
section
variable {P : Program} {w : World} {A : Around} {E : Value → Shared → Prop} {s : Shared}
theorem xor_at {a b : Addr} {LA LB : List (Addr × List Int)} {ea : Array (Int × Value)} {epa : Nat} {ta : SetTable} {eb : Array (Int × Value)} {epb : Nat} {tb : SetTable} (Ra : SetQ P w s.heap a LA ea epa ta) (Rb : SetQ P w s.heap b LB eb epb tb)
    (hf : tb.fill + LA.length < 140) (hu : A.units + 64 < cLine) {Q : Value → Shared → Prop}
    (hQ : ∀ h' L' es' ep' t', (∀ c o, s.heap.get? c = some o → h'.get? c = some o) → SetQ P w h' s.heap.objs.size L' es' ep' t' → (∀ q ∈ L', (q ∈ LB ∧ q.2 ∉ LA.map (·.2)) ∨ (q ∈ LA ∧ q.2 ∉ LB.map (·.2))) → (∀ q ∈ LB, q.2 ∉ LA.map (·.2) → q.2 ∈ L'.map (·.2)) → (∀ q ∈ LA, q.2 ∉ LB.map (·.2) → q.2 ∈ L'.map (·.2)) → t'.fill < 140 → Q (.ref s.heap.objs.size) { s with heap := h' }) :
    wpAny (model P w) A (binaryOp .BitXor (.ref a) (.ref b)) Q E s := by
  obtain ⟨oa, hoa, hexa, hda⟩ := Ra.ob
  obtain ⟨ob, hob, hexb, hdb⟩ := Rb.ob
  have hLB : LB.length ≤ tb.fill := by
    rw [← Rb.psz]
    exact Nat.le_add_right _ _
  refine wpAny_binaryOp_same (op := .BitXor) (T := "set") ⟨oa, hoa, hexa.1⟩ ⟨ob, hob, hexb.1⟩ F.fills_set_xor F.slot_set_xor ?_
  refine wpAny_call_entry F.slot_set_xor ⟨oa, hoa, hexa.1⟩ entry_set_xor ?_ (F.args_set_xor_2 _ _)
  rw [xor_eq]
  have sl : Builtin.Frozenset.slot1 "__xor__" ⟨[.ref a, .ref b], []⟩ = pure (.ref a, .ref b) := rfl
  rw [sl]
  refine wpAny_bind (wpAny_pure ?_)
  dsimp only
  have both : ∀ {Q : Bool → Shared → Prop}, Q true s → wpAny (model P w) A.in1 (Builtin.Frozenset.isAnySet (.ref a) <&&> Builtin.Frozenset.isAnySet (.ref b)) Q E s := fun {Q} q => by
    unfold andM
    exact wpAny_bind (any_set hoa hexa.1 (any_set hob hexb.1 q))
  refine wpAny_bind (both ?_)
  refine wp_if_neg (by decide) ?_
  try refine wpAny_bind (wpAny_pure ?_)
  refine wpAny_bind ?_
  refine wpAny_bind (wpAny_pure ?_)
  refine wpAny_bind (base_set hoa hexa.1 ?_)
  have hlt : ∀ {c : Addr} {o : Obj}, s.heap.get? c = some o → c < s.heap.objs.size := fun h => Heap.lt_size h
  refine wpAny_bind (m := Builtin.Frozenset.newFrom _ (.type "set") (.ref b)) ?_
  unfold Builtin.Frozenset.newFrom
  refine wpAny_bind (new_at ?_)
  have kp : ∀ c o, s.heap.get? c = some o → (s.heap.push { cls := .type "set", dict := none, data := .set #[] 0 (.fresh 0 0 (!w.params.followText "set-order")) }).get? c = some o := fun c o e => Heap.get?_push_of_some _ e
  have hS : (s.heap.push { cls := .type "set", dict := none, data := .set #[] 0 (.fresh 0 0 (!w.params.followText "set-order")) }).get? s.heap.objs.size = some { cls := .type "set", dict := none, data := .set #[] 0 (.fresh 0 0 (!w.params.followText "set-order")) } := Heap.get?_push_size _ rfl
  generalize s.heap.push { cls := .type "set", dict := none, data := .set #[] 0 (.fresh 0 0 (!w.params.followText "set-order")) } = h1 at kp hS
  have R0 : SetQ P w h1 s.heap.objs.size [] #[] 0 (.fresh 0 0 (!w.params.followText "set-order")) := setQ_new hS
  have Rb1 : SetQ P w h1 b LB eb epb tb := Rb.keep (fun o e => kp b o e) fun p hp => isT_kept (Rb.tup p hp) kp
  have Ra1 : SetQ P w h1 a LA ea epa ta := Ra.keep (fun o e => kp a o e) fun p hp => isT_kept (Ra.tup p hp) kp
  refine wpAny_bind (wpAny_pure ?_)
  refine wpAny_bind (wpAny_holding ?_)
  unfold Builtin.Frozenset.updateFrom
  refine wpAny_bind (any_set (s := { s with heap := h1 }) (kp b ob hob) hexb.1 ?_)
  refine wp_if_pos rfl ?_
  refine wpAny_bind (wpAny_pure ?_)
  unfold Builtin.Frozenset.merge
  refine wpAny_bind (epoch_at (s := { s with heap := h1 }) (L := LB) (kp b ob hob) hdb Rb.fits ?_)
  refine merge_at (s := { s with heap := h1 }) R0 rfl Rb1 (by omega) (fun e => Nat.lt_irrefl _ (e ▸ hlt hob)) fun h2 L2 es2 ep2 t2 sb2 R2 pm2 ef2 => ?_
  refine wpAny_pure ?_
  refine wpAny_bind (wpAny_pure ?_)
  refine wpAny_bind (wpAny_holding ?_)
  have neS : ∀ {c : Addr} {o : Obj}, s.heap.get? c = some o → c ≠ s.heap.objs.size := fun h => Nat.ne_of_lt (hlt h)
  have kp2 : ∀ c o, s.heap.get? c = some o → h2.get? c = some o := fun c o e => (sb2.2 c (neS e)).trans (kp c o e)
  have Ra2 : SetQ P w h2 a LA ea epa ta := Ra.keep (fun o e => kp2 a o e) fun p hp => isT_kept (Ra.tup p hp) kp2
  refine symdiff_at (s := { s with heap := h2 }) _ R2 pm2 (by omega) Ra2 (neS hoa) (by show A.units + 1 < cLine; omega) fun h3 L3 es3 ep3 t3 sb3 R3 c1 c2 c3 ef3 => ?_
  refine wpAny_pure ?_
  refine wpAny_pure ⟨_, rfl, (fun z => by cases z), ?_⟩
  exact hQ h3 L3 es3 ep3 t3 (fun c o e => (sb3.2 c (neS e)).trans (kp2 c o e)) R3 c1 c2 c3 ef3
structure SetZ (P : Program) (w : World) (h : Heap) (a : Addr) (L : List (Addr × List Int)) (N : Nat) : Prop where
  ex : ∃ (es : Array (Int × Value)) (ep : Nat) (t : SetTable), (∃ o, h.get? a = some o ∧ o.ExactSet ∧ o.data = .set es ep t) ∧ es.toList = rowsOf P w L ∧ TabD t (L.map fun p => thash P w p.2) ∧ (L.map (·.2)).Nodup ∧ t.plain = true ∧
    (w.params.followText "set-order" = true ∨ t.led = true) ∧ t.fill * 5 < t.mask * 3 ∧ t.fill ≤ N
def SetZO (P : Program) (w : World) (a : Addr) (L : List (Addr × List Int)) (N : Nat) : HO := .ext fun h => SetZ P w h a L N
theorem SetQ.z {h : Heap} {a : Addr} {L : List (Addr × List Int)} {es : Array (Int × Value)} {ep : Nat} {t : SetTable} {N : Nat} (R : SetQ P w h a L es ep t) (hf : t.fill ≤ N) : SetZ P w h a L N :=
  ⟨es, ep, t, R.ob, R.rows, R.tab, R.nd, R.plain, R.led, R.room, hf⟩
theorem SetZ.full {h : Heap} {a : Addr} {L : List (Addr × List Int)} {N : Nat} (R : SetZ P w h a L N) (ht : ∀ p ∈ L, IsT P w h p.2 p.1) : ∃ es ep t, SetQ P w h a L es ep t ∧ t.fill ≤ N := by
  obtain ⟨es, ep, t, h1, h2, h3, h4, h5, h6, h7, h8⟩ := R.ex
  exact ⟨es, ep, t, ⟨h1, h2, h3, h4, ht, h5, h6, h7⟩, h8⟩
theorem setZO_new {H : Hp} {h : Heap} {a : Addr} {L : List (Addr × List Int)} {N : Nat} (R : SetZ P w h a L N) : ObjOk P w H h a (SetZO P w a L N) := by
  have ⟨es, ep, t, ⟨o, ho, r⟩, q⟩ := R.ex
  refine ⟨R, ⟨o, ho⟩, fun h1 h2 p k => ?_⟩
  have ⟨es', ep', t', ⟨o', ho', r'⟩, q'⟩ := SetZ.ex p
  exact ⟨es', ep', t', ⟨o', k o' ho', r'⟩, q'⟩
end
section
variable {X : Cx}
def rSetL (K : PySem.W.Frag) (P : Program) (w : World) : List V → Hp → VK → Prop := fun xs H Q => ∃ (l : Addr) (ks : List (Addr × List Int)), xs = [V.ref l] ∧ SqL K H l (ks.map fun p => V.ref p.1) ∧ (∀ p ∈ ks, SqT K H p.1 (p.2.map V.int)) ∧ ks.length < 140 ∧
  ∀ a L, H a = none → (∀ p ∈ L, p ∈ ks) → (∀ p ∈ ks, p.2 ∈ L.map (·.2)) → Q (.ref a) (upd H a (SetZO P w a L ks.length))
theorem cr_setL (hc : X.calm = true) (hu : X.A.units + 64 < cLine) : CallR X (.type "set") (rSetL X.K X.prog X.w) := by
  intro pins s σ H xs us Q I r h
  obtain ⟨l, ks, rfl, hl, hk, hf, q⟩ := h
  rw [Vals.ref1 r]
  obtain ⟨its, rv, pl, hz⟩ := I.list hl
  have hn : H s.heap.objs.size = none := I.hok.fresh (Nat.le_refl _)
  refine call_setL (P := X.prog) (w := X.w) ks (I.ok.hd hc) pl.isList (by simpa using refs_of_vals rv) (fun p hp => I.isT (hk p hp)) hf (by omega) fun h' tk L es ep t R g hfl k => ?_
  refine ⟨.ref s.heap.objs.size, upd H s.heap.objs.size (SetZO X.prog X.w s.heap.objs.size L ks.length), I.laid (t' := tk) k (Nat.le_refl _) (setZO_new (R.z hfl)), rfl, q _ L hn (fun p hp => ?_) fun p hp => ?_⟩
  · exact List.mem_of_mem_take (g.sub p hp)
  · exact g.all p (by rw [List.take_length]; exact hp)
def rXorZ (K : PySem.W.Frag) (P : Program) (w : World) : R2 := fun x y H Q => ∃ (a b : Addr) (LA LB : List (Addr × List Int)) (NA NB : Nat), x = .ref a ∧ y = .ref b ∧ H a = some (SetZO P w a LA NA) ∧ H b = some (SetZO P w b LB NB) ∧ (∀ p ∈ LA, SqT K H p.1 (p.2.map V.int)) ∧ (∀ p ∈ LB, SqT K H p.1 (p.2.map V.int)) ∧ NA + NB < 140 ∧
  ∀ c L', H c = none → (∀ q ∈ L', (q ∈ LB ∧ q.2 ∉ LA.map (·.2)) ∨ (q ∈ LA ∧ q.2 ∉ LB.map (·.2))) → (∀ q ∈ LB, q.2 ∉ LA.map (·.2) → q.2 ∈ L'.map (·.2)) → (∀ q ∈ LA, q.2 ∉ LB.map (·.2) → q.2 ∈ L'.map (·.2)) → Q (.ref c) (upd H c (SetZO P w c L' 140))
theorem op_xorZ (hu : X.A.units + 64 < cLine) : OpR X (binaryOp .BitXor) (rXorZ X.K X.prog X.w) := by
  intro pins s σ H x y v u Q I rx ry h
  obtain ⟨a, b, LA, LB, NA, NB, rfl, rfl, ha, hb, ka, kb, hN, q⟩ := h
  cases rx
  cases ry
  obtain ⟨ea, epa, ta, Ra, fa⟩ := (show SetZ X.prog X.w s.heap a LA NA from (I.hok a _ ha).1).full fun p hp => I.isT (ka p hp)
  obtain ⟨eb, epb, tb, Rb, fb⟩ := (show SetZ X.prog X.w s.heap b LB NB from (I.hok b _ hb).1).full fun p hp => I.isT (kb p hp)
  have hLA : LA.length ≤ ta.fill := by
    rw [← Ra.psz]
    exact Nat.le_add_right _ _
  have hn : H s.heap.objs.size = none := I.hok.fresh (Nat.le_refl _)
  refine xor_at (P := X.prog) (w := X.w) Ra Rb (by omega) hu fun h' L' es' ep' t' k R c1 c2 c3 hf => ?_
  exact ⟨.ref s.heap.objs.size, upd H s.heap.objs.size (SetZO X.prog X.w s.heap.objs.size L' 140), I.laid (t' := s.toks) k (Nat.le_refl _) (setZO_new (R.z (Nat.le_of_lt hf))), rfl, q _ L' hn c1 c2 c3⟩
def kOf : List Int → Int × Int
  | [i, j] => (i, j)
  | _ => (0, 0)
def rSortZ (K : PySem.W.Frag) (P : Program) (w : World) : List V → Hp → VK → Prop := fun vs H Q => ∃ (a : Addr) (L : List (Addr × List Int)) (N : Nat), vs = [V.ref a] ∧ H a = some (SetZO P w a L N) ∧ (∀ p ∈ L, SqT K H p.1 (p.2.map V.int) ∧ ∃ i j, p.2 = [i, j]) ∧ N ≤ 4000 ∧
  ∀ (L' : List (Addr × List Int)) (p : Addr), L'.Perm L → (L'.map (·.2)).Nodup → L'.Pairwise (fun q r => SrtO.lexB (kOf r.2) (kOf q.2) = false) → H p = none → Q (.ref p) (upd H p (.lst (L'.map fun q => V.ref q.1)))
theorem cr_sortZ (hc : X.calm = true) : CallR X (.builtin "sorted") (rSortZ X.K X.prog X.w) := by
  intro pins s σ H vs us Q I r h
  obtain ⟨a, L, N, rfl, ha, hk, hN, q⟩ := h
  obtain ⟨es, ep, t, R, hfl⟩ := (show SetZ X.prog X.w s.heap a L N from (I.hok a _ ha).1).full fun p hp => I.isT (hk p hp).1
  rw [Vals.ref1 r]
  have hLf : L.length ≤ N := Nat.le_trans (by rw [← R.psz]; exact Nat.le_add_right _ _) hfl
  obtain ⟨o, ho, hex, hd⟩ := R.ob
  refine Calls.call_function_entry kind_sorted plain_sorted entry_sorted (args_sorted1 _) ?_
  unfold Builtin.«sorted»
  refine wpAny_bind (m := checkCount "sorted" 1 1 _) (wpAny_pure ?_)
  refine wpAny_bind (collect_set (A := X.A.in1) (I.ok.hd hc) ⟨o, ho, hex.1, hd⟩ R.fits (by rw [R.size]; unfold scanBound; omega) R.tab.ris R.led fun s1 vs k1 hz g1 o1 pm => ?_)
  have hes : es.toList.map (·.2) = L.map fun q => Value.ref q.1 := by
    rw [R.rows]
    unfold rowsOf
    rw [List.map_map]
    rfl
  rw [hes] at pm
  obtain ⟨L1, p1, e1⟩ := perm_of_map (fun q : Addr × List Int => Value.ref q.1) pm L rfl
  have hvl : vs.length ≤ 4000 := by
    rw [pm.length_eq, List.length_map]
    omega
  refine wpAny_bind (wpAny_newList ?_ (by rw [sizeLine_eq]; omega))
  have hoL : (s1.heap.push (seqObj "list" vs.toArray 0)).get? s1.heap.objs.size = some (seqObj "list" vs.toArray 0) := Heap.get?_push_size _ rfl
  have tk : ∀ q ∈ L, IsT X.prog X.w s.heap q.2 q.1 := fun q hq => I.isT (hk q hq).1
  have key : ∀ q ∈ L, ∀ h : Heap, (∀ b u, s.heap.get? b = some u → h.get? b = some u) → TS.intsOf h (.ref q.1) = q.2 := fun q hq h kk => (tupInts_of (P := X.prog) (w := X.w) (isT_kept (tk q hq) kk)).ints
  have hp : ∀ v ∈ vs, Srt.IsPair s1.heap v (kOf (TS.intsOf s1.heap v)).1 (kOf (TS.intsOf s1.heap v)).2 := fun v hv => by
    obtain ⟨q, hq, e⟩ := List.mem_map.mp (pm.mem_iff.mp hv)
    subst e
    obtain ⟨_, i, j, eij⟩ := hk q hq
    rw [key q hq s1.heap k1, eij]
    have z := isT_kept (tk q hq) k1
    rw [eij] at z
    obtain ⟨o2, its, n2, ho2, hc2, hd2, hi2⟩ := z
    have z2 := ints_of_items hi2
    have ei := Array.toArray_toList (xs := its)
    generalize its.toList = l at z2 ei
    cases z2 with
    | cons n t hr =>
      cases hr with
      | cons n' t' hr' =>
        cases hr'
        rw [← ei] at hd2
        exact ⟨q.1, o2, _, _, n2, rfl, ho2, hc2, hd2⟩
  refine wpAny_bind (wpAny_holding (wpAny_call_entry slot_list_sort ⟨_, hoL, rfl⟩ entry_list_sort (SrtO.list_sort_ord (SrtO.swo_lex fun v => kOf (TS.intsOf s1.heap v)) hoL (by rw [sizeLine_eq]; omega) (fun h2 => ?_) fun out hs hb => ⟨_, rfl, ?_⟩) (args_list_sort _)))
  · refine SrtO.pairs_sortableO (s := { s1 with heap := s1.heap.push (seqObj "list" vs.toArray 0) }) (by omega) (fun v hm => (hp v hm).keeps fun b o e _ => Heap.get?_push_of_some _ e) fun o e => ?_
    have e' : some o = some (seqObj "list" vs.toArray 0) := e.symm.trans hoL
    cases e'
    intro c
    exact absurd (Value.type.inj c) (by decide)
  · obtain ⟨L2, p2, e2⟩ := perm_of_map (fun q : Addr × List Int => Value.ref q.1) (hb.perm.trans pm) L rfl
    obtain ⟨c, hc2⟩ := sortedHeap_at (vs := vs) (out := out.toArray) hoL
    have hn : H s1.heap.objs.size = none := I.hok.fresh hz
    have k2 : ∀ b u, s.heap.get? b = some u → (sortedHeap (s1.heap.push (seqObj "list" vs.toArray 0)) s1.heap.objs.size vs out.toArray).get? b = some u := fun b u e => by
      have z := k1 b u e
      have hlt := Heap.lt_size z
      rw [sortedHeap_old (Nat.ne_of_lt hlt) (by rw [size_push']; exact Nat.lt_succ_of_lt hlt)]
      exact Heap.get?_push_of_some _ z
    have hlen : (L2.map fun q => V.ref q.1).length ≤ sizeLine := by
      rw [List.length_map, p2.length_eq, sizeLine_eq]
      omega
    have hv : Vals (L2.map fun q => V.ref q.1) out := by
      rw [e2]
      exact vals_of_refs L2
    have pw : L2.Pairwise (fun q r => SrtO.lexB (kOf r.2) (kOf q.2) = false) := by
      have z : out.Pairwise (fun x y => SrtO.lexB (kOf (TS.intsOf s1.heap y)) (kOf (TS.intsOf s1.heap x)) = false) := hs
      rw [e2, List.pairwise_map] at z
      refine List.Pairwise.imp_of_mem (fun {q r} hq hr y => ?_) z
      rw [key q (p2.mem_iff.mp hq) s1.heap k1, key r (p2.mem_iff.mp hr) s1.heap k1] at y
      exact y
    have J : Inv X pins σ (upd H s1.heap.objs.size (.lst (L2.map fun q => V.ref q.1))) { s with heap := sortedHeap (s1.heap.push (seqObj "list" vs.toArray 0)) s1.heap.objs.size vs out.toArray, gens := s1.gens, drawn := s1.drawn, toks := s1.toks } :=
      I.call (ch := []) (Un.laid k2 hz hn) (I.hok.laid k2 hz ⟨hlen, out, c, hv, hc2⟩) (by rw [g1]; exact I.bare) (fun _ z => nomatch z)
    refine wpAny_pure ⟨_, rfl, ?_⟩
    have e : ({ s1 with heap := sortedHeap (s1.heap.push (seqObj "list" vs.toArray 0)) s1.heap.objs.size vs out.toArray } : Shared) = { s with heap := sortedHeap (s1.heap.push (seqObj "list" vs.toArray 0)) s1.heap.objs.size vs out.toArray, gens := s1.gens, drawn := s1.drawn, toks := s1.toks } := by
      cases s1
      cases s
      cases o1
      rfl
    rw [e]
    exact ⟨.ref _, _, J, rfl, q L2 _ p2 ((p2.map (·.2)).nodup_iff.mpr R.nd) pw hn⟩
end
end Sx

set_option Elab.async false
set_option linter.all false
set_option maxRecDepth 100000
namespace Sx
open PySem PySem.Spec PyProof.Rows L2
/-- as FnOk, where no guard is around -/
structure FnOkG (P : Program) (w : World) (K : PySem.W.Frag) (mg : Str → Option Value) (base : Heap) (CX : CXT) (k : Nat) (f : Addr) (fd : FuncData) (ps : List Str) (sp : Sp) : Prop where
  len : ∀ vs H Q E, sp vs H Q E → vs.length = ps.length
  run : ∀ (A : Around) (outer : List Env) (s : Shared) (H : Hp) (args : Args) (us : List Value) (vs : List V) (Q : VK) (E : XK), A.guards = some [] → Room k A → Env0 P w K mg base A outer s H → BindsTo s fd args (ps.zip us) → Vals vs us → sp vs H Q E →
    codeAny (model P w) A (.call (.ref f) args) (CR CX outer P w H s Q E) s
section
variable {P : Program} {w : World} {K : PySem.W.Frag} {mg : Str → Option Value} {base : Heap}
theorem okG {x qual : Str} {st : Stmt} {f : Addr} {fd : FuncData} {N ps : List Str} {k : Nat} {sp : Sp} (F : Fun K x qual st f fd) (S : FnScope N ps (defScope st)) (len : ∀ vs H Q E, sp vs H Q E → vs.length = ps.length)
    (hbody : ∀ (cdv : Value) (A : Around) (outer : List Env) (s : Shared) (H : Hp) (vs : List V) (Q : VK) (E : XK), A.guards = some [] → Room k (A.deeper (envOfC qual (defScope st) s.heap.objs.size f cdv)) → sp vs H Q E →
      ∃ t, PSs (cxOf CX0 P w K mg base N qual (defScope st) f cdv A outer s H E).nox (defBody st) t ∧ t { nx := fun _ H' => Q .non H', rt := Q } (start N vs) H) : FnOkG P w K mg base CX0 (k + 1) f fd ps sp := by
  obtain ⟨oc, od, kV, doc, pm, an, cdv, ct, osl, rfl, lk, hcd⟩ := F.ex
  refine ⟨len, fun A outer s H args us vs Q E hG hr e0 hb r hsp => ?_⟩
  have hl := len _ _ _ _ hsp
  have KX : K.In s.heap := e0.mod.kin.keeps fun b o e => (e0.bs b o e).1
  have lim : s.heap.NoLimit := e0.mod.nolimit.keeps fun b o e => (e0.bs b o e).1
  refine codeAny_call_function hr.depth (KX _ _ lk) rfl S.co S.gen rfl (PySem.W.codeRec_of KX hcd) (hb _ _ _ _ ?_)
  refine wpAny_newFunctionEnv_cells S.kind (fun ⟨n, v⟩ hy => ?_) fun env he s1 x => ?_
  · rcases S.par n (List.of_mem_zip hy).1 with q | q
    · exact .inl q
    · exact .inr ⟨q, PySem.W.cellsFrom_some _ _ _ (.inl q)⟩
  subst he
  refine ⟨lim.keeps x.toInCall.keep, codeAny_func ?_⟩
  obtain ⟨t, ht0, hq⟩ := hbody cdv A outer s H vs Q E hG (hr.deeper _) hsp
  have ht := ht0.nox
  refine wpAny_mono (ht.run [] s1 (start N vs) H _ (inv_start S hr.hd e0 hl r x) hq) (fun fl s' hs => ?_) fun e s' hs => hs
  cases fl with
  | ret u =>
    obtain ⟨v, σ', H', J, rv, q⟩ := hs
    exact ⟨v, H', J.os, J.bare, J.base, J.hok, rv, q⟩
  | next =>
    obtain ⟨σ', H', J, q⟩ := hs
    exact ⟨V.non, H', J.os, J.bare, J.base, J.hok, rfl, q⟩
  | brk =>
    obtain ⟨_, _, _, q⟩ := hs
    exact False.elim q
  | cont =>
    obtain ⟨_, _, _, q⟩ := hs
    exact False.elim q
theorem callG {mb : Str → Option Value} {k : Nat} {fa a : Addr} {fd : FuncData} {x : Str} {sp : Sp} {s₁ : Shared} {vs : List Value} {ns : List Int}
    (KX : K.In s₁.heap) (hns : s₁.heap.Ns mainGlobals mg) (hb : s₁.heap.Ns builtinsNs mb) (hbb : ∀ x : Str, x ≠ "__name__" → mb x = bootBuiltins x) (hlim : s₁.heap.NoLimit) (hg : s₁.gens = #[])
    (ha : s₁.heap.get? a = some { cls := .type "list", data := .seq vs.toArray }) (hi : IntsAre vs ns) (hl : ns.length ≤ sizeLine) (hr : Room k callerA)
    (F : ∀ base : Heap, K.In base → base.Ns mainGlobals mg → FnOkG P w K mg base CX0 k fa fd [x] sp) (hbind : ∀ (s : Shared) (u : Value), BindsTo s fd ⟨[u], []⟩ [(x, u)])
    (hsp : ∀ H : Hp, SqL K H a (ns.map V.int) → sp [.ref a] H (fun v _ => v = .bl true) fun _ _ _ => False) :
    codeAny (model P w) callerA (.call (.ref fa) ⟨[.ref a], []⟩) (fun r s' => r = .ok (.ret (.bool true)) ∧ OldK s₁.heap s'.heap ∧ s'.os = s₁.os ∧ AllBare s'.gens) s₁ := by
  have rv := vals_ints hi
  have lenV := hi.length
  -- any abstract heap that tells of the script at most
  have main : ∀ H : Hp, (∀ b, H b = none ∨ ∃ o xs, H b = some (.frz o (.lst xs))) → SqL K H a (ns.map V.int) → HOk P w H s₁.heap → (∀ b, H b ≠ none → b = a) → (H a ≠ none → K.lookup a = none) →
      codeAny (model P w) callerA (.call (.ref fa) ⟨[.ref a], []⟩) (fun r s' => r = .ok (.ret (.bool true)) ∧ OldK s₁.heap s'.heap ∧ s'.os = s₁.os ∧ AllBare s'.gens) s₁ := by
    intro H hO hS hok hA hK
    have isA : ∀ {b : Addr}, H b ≠ none → b = a := fun {b} h => hA b h
    have dNone : ∀ {b : Addr} {o : Obj} {es : Array DictEntry} {ep : Nat}, s₁.heap.get? b = some o → o.data = .dict es ep → H b = none := fun {b o es ep} e d => Classical.byContradiction fun q => by
      rw [isA q, ha] at e
      cases e
      cases d
    have toB : ∀ {b : Addr} {o : Obj}, s₁.heap.get? b = some o → H b = none → (hidT s₁.heap H).get? b = some o := fun e n => hidT_get e n
    have toNs : ∀ {b : Addr} {m : Str → Option Value}, s₁.heap.Ns b m → (hidT s₁.heap H).Ns b m := fun {b m} ⟨o, es, ep, e, d, r⟩ => ⟨o, es, ep, toB e (dNone e d), d, r⟩
    have inB : K.In (hidT s₁.heap H) := fun b o e => toB (KX b o e) (Classical.byContradiction fun q => by
      rw [isA q, hK (by rw [← isA q]; exact q)] at e
      cases e)
    have hM : Mod K mg (hidT s₁.heap H) := ⟨inB, toNs hns, ⟨mb, toNs hb, hbb⟩, let ⟨mc, h1, h2⟩ := hlim; ⟨mc, toNs h1, h2⟩⟩
    have e0 : Env0 P w K mg (hidT s₁.heap H) callerA [] s₁ H := ⟨rfl, hM, fun b o e => of_hidT e, Nat.le_of_eq (hidT_size _ _), trivial, fun b hb => (by cases hb), hok, .of_eq hg⟩
    refine codeAny_mono ((F _ inB (toNs hns)).run callerA [] s₁ H ⟨[.ref a], []⟩ [.ref a] [.ref a] _ _ rfl hr e0 (hbind s₁ (.ref a)) (.cons rfl .nil) (hsp H hS)) fun r s' h => ?_
    cases r with
    | error e => exact h.elim
    | ok fl =>
      cases fl with
      | next => exact h.elim
      | brk => exact h.elim
      | cont => exact h.elim
      | ret u =>
        obtain ⟨v, H', os, bare, un, hok', r', q⟩ := h
        have q : v = .bl true := q
        subst q
        cases r'
        refine ⟨rfl, OldK.of_keep fun b o e => ?_, os, bare⟩
        rcases hO b with z | ⟨ob, xs, z⟩
        · exact un.keep b o e z (fun y => by cases y) (by simp)
        · obtain ⟨e1, _⟩ := hok b _ z
          obtain ⟨e2, _⟩ := hok' b _ (un.frzs b ob _ z)
          rw [e] at e1
          cases e1
          exact e2
  cases hk : K.lookup a with
  | some o =>
    have e := KX a o hk
    rw [ha] at e
    cases e
    exact main (fun _ => none) (fun _ => .inl rfl) (.inr ⟨_, vs.toArray, _, hk, rfl, rfl, rfl, by rw [List.size_toArray, lenV]; exact hl, by simpa using rv⟩) (fun b u z => by cases z) (fun b z => absurd rfl z) fun z => absurd rfl z
  | none =>
    refine main (fun b => if b = a then some (.frz { cls := .type "list", data := .seq vs.toArray } (.lst (ns.map V.int))) else none) (fun b => ?_) (.inl (.inr ⟨{ cls := .type "list", data := .seq vs.toArray }, if_pos rfl⟩)) (fun b u z => ?_) (fun b z => ?_) fun _ => hk
    · by_cases c : b = a
      · exact .inr ⟨_, _, if_pos c⟩
      · exact .inl (if_neg c)
    · by_cases c : b = a
      · have z' := (if_pos c).symm.trans z
        cases z'
        subst c
        exact ⟨ha, by rw [List.length_map]; exact hl, vs, _, rv, ha⟩
      · have z' := (if_neg c).symm.trans z
        cases z'
    · by_cases c : b = a
      · exact c
      · exact absurd (if_neg c) z
end
def LawAtG (l : PySem.W.OpenLaw) (w : World) (K : PySem.W.Frag) (k n : Nat) (x : Str) (mg : Str → Option Value) (fa : Addr) : Prop :=
  ∃ (fd : FuncData) (sp : Sp), (∀ (s : Shared) (u : Value), BindsTo s fd ⟨[u], []⟩ [(x, u)]) ∧ (∀ (H : Hp) (a : Addr) (ns : List Int), ns.length ≤ n → SqL K H a (ns.map V.int) → sp [.ref a] H (fun v _ => v = .bl true) fun _ _ _ => False) ∧
    ∀ base : Heap, K.In base → base.Ns mainGlobals mg → FnOkG l.prog w K mg base CX0 k fa fd [x] sp
theorem walkG {l : PySem.W.OpenLaw} {n k : Nat} {q : Program} {loose : List Str} {XP : (Str → Option Value) → Heap → Prop} {YP : World → Heap → Prop} {d : DefRec} {K : Params → PySem.W.Frag} {x : Str}
    (hn : l.most = some n) (hn2 : n ≤ sizeLine) (hdf : d.params.defaults = []) (hr : Room k callerA) (hY : ∀ (w : World) (h : Heap), YP w h → (K w.params).In h)
    (F : ∀ (w : World) (mg : Str → Option Value) (fa : Addr) (h : Heap), YP w h → (K w.params).In h → h.Ns mainGlobals mg → mg d.name = some (.ref fa) → LawAtG l w (K w.params) k n x mg fa) :
    PySem.W.WalkO q loose XP YP l.row.toRowW d [] (fun f vs => PySem.call f vs) := by
  refine Att.attach_call hn hdf fun w s₀ s₁ mg mb fa o pm cd doc a vs ns G Y ho hd hcd hmg hobj hints hlen hg => ?_
  have KX := hY w _ Y
  obtain ⟨fd, sp, hb, hsp, hF⟩ := F w mg fa _ Y KX G.T.g hmg
  exact callG KX G.T.g G.T.b G.T.builtins G.T.nolimit hg hobj hints (Nat.le_trans hlen hn2) hr hF hb fun H hS => hsp H a ns hlen hS
section
variable {X : Cx}
def rReprD (K : PySem.W.Frag) : List V → Hp → VK → Prop := fun xs H Q => ∃ (a : Addr) (d : PyData), xs = [.ref a] ∧ Dp K H (.ref a) d ∧ d.showable = true ∧ d.hasDict = false ∧ d.depth ≤ 60 ∧ d.shown.length ≤ sizeLine ∧ Q (.str d.shown) H
theorem cr_reprD (hG : X.A.guards = some []) (hu : X.A.units + 64 < cLine) : CallR X (.builtin "repr") (rReprD X.K) := by
  intro pins s σ H xs us Q I r h
  obtain ⟨a, d, rfl, hd, h1, h2, h3, h4, q⟩ := h
  rw [Vals.ref1 r]
  obtain ⟨as, rd⟩ := Dp.reads I d _ _ hd (show RelV (.ref a) (.ref a) from rfl)
  refine repr_of_reads' rd h1 (fun z => by rw [h2] at z; cases z) hG (by omega) (fun _ _ e => e) (fun h' u tk hk => ?_) h4
  exact ⟨.str d.shown, H, I.kept (t' := tk) hk, show RelV (.str d.shown) (.str d.shown u) from ⟨u, rfl⟩, q⟩
def rReprB : List V → Hp → VK → Prop := fun xs H Q => ∃ b : Bool, xs = [.bl b] ∧ Q (.str (if b then "True" else "False")) H
theorem cr_reprB : CallR X (.builtin "repr") rReprB := by
  intro pins s σ H xs us Q I r h
  obtain ⟨b, rfl, q⟩ := h
  obtain ⟨u, rfl, hb⟩ := vals1 r
  obtain rfl : u = Value.bool b := hb
  refine PySem.P.repr_of_bool ?_
  exact ⟨.str (if b then "True" else "False"), H, I.tok _, ⟨_, rfl⟩, q⟩
end
end Sx

set_option Elab.async false
set_option linter.all false
set_option maxRecDepth 100000
namespace Ho
open PySem PySem.Spec PySem.Calls PyProof.Rows L2 LamX NdefX Ed Sx
open Ed.Enc (enc)
/-- a set of just these pairs -/
def IsZ (P : Program) (w : World) (N : Nat) (ks : List (Int × Int)) : Rp := fun G v => ∃ (a : Addr) (L : List (Addr × List Int)), v = .ref a ∧ G a = some (SetZO P w a L N) ∧ (∀ p ∈ L, ∃ q ∈ ks, p.2 = [q.1, q.2] ∧ G p.1 = some (.tup [.int q.1, .int q.2])) ∧ ∀ q ∈ ks, [q.1, q.2] ∈ L.map (·.2)
theorem isZ_ex {P : Program} {w : World} {N : Nat} {ks : List (Int × Int)} : Mono (IsZ P w N ks) := ⟨fun e ⟨a, L, h, g, k, m⟩ => ⟨a, L, h, e _ _ g, fun p hp => by
  obtain ⟨q, hq, e1, e2⟩ := k p hp
  exact ⟨q, hq, e1, e _ _ e2⟩, m⟩⟩
instance {P : Program} {w : World} {N : Nat} {ks : List (Int × Int)} : MonoC (IsZ P w N ks) := ⟨isZ_ex⟩
theorem nt_ext {f : Heap → Prop} : ∀ ps, HO.ext f ≠ .tbl ps := fun _ z => by cases z
theorem pairs_ks {G : Hp} : ∀ {ps : List (Int × Int)} {vs : List V}, DqAll G vs (ps.map enc) → ∃ ks : List (Addr × List Int), vs = ks.map (fun p => V.ref p.1) ∧ ks.map (·.2) = ps.map (fun q => [q.1, q.2]) ∧ ∀ p ∈ ks, ∃ q ∈ ps, p.2 = [q.1, q.2] ∧ G p.1 = some (.tup [.int q.1, .int q.2])
  | [], _, .nil => ⟨[], rfl, rfl, fun p h => by cases h⟩
  | q :: ps, _, .cons h t => by
    obtain ⟨ks, e1, e2, e3⟩ := pairs_ks t
    obtain ⟨a, rfl, ha⟩ := pair_at (a := q.1) (b := q.2) h
    refine ⟨(a, [q.1, q.2]) :: ks, by rw [List.map_cons, e1], by rw [List.map_cons, List.map_cons, e2], fun p hp => ?_⟩
    rcases List.mem_cons.mp hp with z | z
    · subst z
      exact ⟨q, List.mem_cons_self, rfl, ha⟩
    · obtain ⟨q', a, b⟩ := e3 p z
      exact ⟨q', List.mem_cons_of_mem _ a, b⟩
theorem cr_setLK {X : Cx} {K : PySem.W.Frag} (h : X.K = K) (hc : X.calm = true) (hu : X.A.units + 64 < cLine) : CallR X (.type "set") (rSetL K X.prog X.w) := h ▸ cr_setL hc hu
theorem op_xorZK {X : Cx} {K : PySem.W.Frag} (h : X.K = K) (hu : X.A.units + 64 < cLine) : OpR X (binaryOp .BitXor) (rXorZ K X.prog X.w) := h ▸ op_xorZ hu
theorem cr_sortZK {X : Cx} {K : PySem.W.Frag} (h : X.K = K) (hc : X.calm = true) : CallR X (.builtin "sorted") (rSortZ K X.prog X.w) := h ▸ cr_sortZ hc
theorem cr_reprDK {X : Cx} {K : PySem.W.Frag} (h : X.K = K) (hG : X.A.guards = some []) (hu : X.A.units + 64 < cLine) : CallR X (.builtin "repr") (rReprD K) := h ▸ cr_reprD hG hu
section
variable {T : Tbs} {P : Program} {w : World} {K : PySem.W.Frag} {σ : L2.St} {G0 H0 F G H : Hp} {Γ Γ' : List Sl} {te tl ta tb : TE} {N M : Nat} {ks ls : List (Int × Int)}
theorem ev_setL {ps : List (Int × Int)} (h : Ev T te σ G ps) (hl : ps.length < 140) : EvR T (tCB (rSetL K P w) (tCons te tNil)) σ G (IsZ P w ps.length ps) := fun H k Q q =>
  h H k _ fun v G1 H1 n1 r1 => by
    have r1 : Dq G1 v (.list (ps.map enc)) := r1
    cases r1 with
    | @lst a vs _ h1 h2 =>
      obtain ⟨ks, e1, e2, e3⟩ := pairs_ks h2
      have hlen : ks.length = ps.length := by
        have z := congrArg List.length e2
        rw [List.length_map, List.length_map] at z
        exact z
      refine ⟨a, ks, rfl, .inl (.inl (by rw [← e1]; exact n1.kn.le _ _ h1)), fun p hp => ?_, by omega, fun c L hc hs ha => ?_⟩
      · obtain ⟨q, _, e4, e5⟩ := e3 p hp
        rw [e4]
        exact .inl (.inl (n1.kn.le _ _ e5))
      · have n2 := Nx.new (o := SetZO P w c L ks.length) n1.kn hc nt_ext
        refine q _ _ _ (n1.trans n2) ⟨c, L, rfl, by rw [upd_same, hlen], fun p hp => ?_, fun q hq => ?_⟩
        · obtain ⟨q, hq, e4, e5⟩ := e3 p (hs p hp)
          exact ⟨q, hq, e4, (Ex.new (n1.kn.none hc)) _ _ e5⟩
        · have z : [q.1, q.2] ∈ ks.map (·.2) := by
            rw [e2]
            exact List.mem_map.mpr ⟨q, hq, rfl⟩
          obtain ⟨p, hp, e⟩ := List.mem_map.mp z
          have e : p.2 = [q.1, q.2] := e
          rw [← e]
          exact ha p hp
theorem key_inj {p q : Int × Int} (h : ([p.1, p.2] : List Int) = [q.1, q.2]) : p = q := by
  injection h with h1 h2
  injection h2 with h2 _
  exact Prod.ext h1 h2
theorem ev_xorZ {ms : List (Int × Int)} (ha : EvR T ta σ G (IsZ P w N ks)) (hb : EvR T tb σ G (IsZ P w M ls)) (hN : N + M < 140) (hm : ∀ q, q ∈ ms ↔ (q ∈ ls ∧ q ∉ ks) ∨ (q ∈ ks ∧ q ∉ ls)) : EvR T (tOp (rXorZ K P w) ta tb) σ G (IsZ P w 140 ms) :=
  ev_op isZ_ex isZ_ex ha hb fun u v G1 H1 _ k rx ry Q q => by
    obtain ⟨a, LA, rfl, ga, ka, ma⟩ := rx
    obtain ⟨b, LB, rfl, gb, kb, mb⟩ := ry
    have sq : ∀ {L : List (Addr × List Int)} {xs : List (Int × Int)}, (∀ p ∈ L, ∃ q ∈ xs, p.2 = [q.1, q.2] ∧ G1 p.1 = some (.tup [.int q.1, .int q.2])) → ∀ p ∈ L, SqT K H1 p.1 (p.2.map V.int) := fun {L xs} h p hp => by
      obtain ⟨q, _, e4, e5⟩ := h p hp
      rw [e4]
      exact .inl (.inl (k.le _ _ e5))
    have inA : ∀ {L : List (Addr × List Int)} {xs : List (Int × Int)}, (∀ p ∈ L, ∃ q ∈ xs, p.2 = [q.1, q.2] ∧ G1 p.1 = some (.tup [.int q.1, .int q.2])) → (∀ q ∈ xs, [q.1, q.2] ∈ L.map (·.2)) → ∀ q : Int × Int, [q.1, q.2] ∈ L.map (·.2) ↔ q ∈ xs := fun {L xs} h h2 q => ⟨fun z => by
      obtain ⟨p, hp, e⟩ := List.mem_map.mp z
      obtain ⟨q', hq', e4, _⟩ := h p hp
      have e : p.2 = [q.1, q.2] := e
      rw [e4] at e
      rw [← key_inj e]
      exact hq', h2 q⟩
    refine ⟨a, b, LA, LB, N, M, rfl, rfl, k.le _ _ ga, k.le _ _ gb, sq ka, sq kb, hN, fun c L' hc c1 c2 c3 => ?_⟩
    have n2 := Nx.new (o := SetZO P w c L' 140) k hc nt_ext
    have ex := Ex.new (o := SetZO P w c L' 140) (k.none hc)
    refine q _ _ _ n2 ⟨c, L', rfl, upd_same, fun p hp => ?_, fun q hq => ?_⟩
    · rcases c1 p hp with ⟨x, y⟩ | ⟨x, y⟩
      · obtain ⟨q, hq, e4, e5⟩ := kb p x
        refine ⟨q, (hm q).mpr (.inl ⟨hq, fun z => y ?_⟩), e4, ex _ _ e5⟩
        rw [e4]
        exact ma q z
      · obtain ⟨q, hq, e4, e5⟩ := ka p x
        refine ⟨q, (hm q).mpr (.inr ⟨hq, fun z => y ?_⟩), e4, ex _ _ e5⟩
        rw [e4]
        exact mb q z
    · rcases (hm q).mp hq with ⟨x, y⟩ | ⟨x, y⟩
      · obtain ⟨p, hp, e⟩ := List.mem_map.mp (mb q x)
        have e : p.2 = [q.1, q.2] := e
        rw [← e]
        exact c2 p hp fun z => y ((inA ka ma q).mp (by rw [← e]; exact z))
      · obtain ⟨p, hp, e⟩ := List.mem_map.mp (ma q x)
        have e : p.2 = [q.1, q.2] := e
        rw [← e]
        exact c3 p hp fun z => y ((inA kb mb q).mp (by rw [← e]; exact z))
theorem keys_da {G : Hp} : ∀ {L : List (Addr × List Int)} {ps : List (Int × Int)}, L.map (·.2) = ps.map (fun q => [q.1, q.2]) → (∀ p ∈ L, ∃ q : Int × Int, p.2 = [q.1, q.2] ∧ G p.1 = some (.tup [.int q.1, .int q.2])) → DqAll G (L.map fun p => V.ref p.1) (ps.map enc)
  | [], [], _, _ => .nil
  | [], _ :: _, e, _ => by cases e
  | _ :: _, [], e, _ => by cases e
  | p :: L, q :: ps, e, h => by
    rw [List.map_cons, List.map_cons] at e
    injection e with e1 e2
    obtain ⟨q', a, b⟩ := h p List.mem_cons_self
    have e1 : p.2 = [q.1, q.2] := e1
    rw [e1] at a
    have z := key_inj a
    subst z
    exact .cons (.tup b (.cons (.int _) (.cons (.int _) .nil))) (keys_da e2 fun r hr => h r (List.mem_cons_of_mem _ hr))
/-- sorted of a set: the one list of its members that rises -/
theorem en_sortZ (h : EvR T te σ G (IsZ P w N ks)) (hN : N ≤ 4000) (hs : ls.Pairwise fun p q => p.1 < q.1 ∨ (p.1 = q.1 ∧ p.2 < q.2)) (hm : ∀ q, q ∈ ls ↔ q ∈ ks) : EvN T (tCB (rSortZ K P w) (tCons te tNil)) σ G ls := fun H k Q q =>
  h H k _ fun v G1 H1 n1 r1 => by
    obtain ⟨a, L, rfl, ga, ka, ma⟩ := r1
    refine ⟨a, L, N, rfl, n1.kn.le _ _ ga, fun p hp => ?_, hN, fun L' p pm nd pw hp => ?_⟩
    · obtain ⟨q, _, e4, e5⟩ := ka p hp
      rw [e4]
      exact ⟨.inl (.inl (n1.kn.le _ _ e5)), _, _, rfl⟩
    · have kL : ∀ p ∈ L', ∃ q : Int × Int, p.2 = [q.1, q.2] ∧ G1 p.1 = some (.tup [.int q.1, .int q.2]) := fun p hp => by
        obtain ⟨q, _, e4, e5⟩ := ka p (pm.mem_iff.mp hp)
        exact ⟨q, e4, e5⟩
      refine q p _ G1 _ (n1.trans (Nx.fresh n1.kn hp)) (n1.dom p hp) (n1.kn.none hp) upd_same (keys_da ?_ kL)
      -- the same members, both rising
      have e0 : L'.map (·.2) = (L'.map fun p => kOf p.2).map (fun q => [q.1, q.2]) := by
        rw [List.map_map]
        refine List.map_congr_left fun p hp => ?_
        obtain ⟨q, e4, _⟩ := kL p hp
        show p.2 = [(kOf p.2).1, (kOf p.2).2]
        rw [e4]
        rfl
      rw [e0]
      refine congrArg (List.map fun q : Int × Int => [q.1, q.2]) ?_
      have nd2 : (L'.map fun p => kOf p.2).Nodup := by
        rw [e0] at nd
        exact List.Pairwise.of_map _ (fun x y hne e => hne (by rw [e])) nd
      have ndl : ls.Nodup := hs.imp fun {p q} h e => by
        subst e
        omega
      have mem : ∀ q, q ∈ (L'.map fun p => kOf p.2) ↔ q ∈ ls := fun q => by
        rw [hm]
        constructor
        · intro z
          obtain ⟨p, hp, e⟩ := List.mem_map.mp z
          obtain ⟨q', hq', e4, _⟩ := ka p (pm.mem_iff.mp hp)
          rw [e4] at e
          have e : q' = q := e
          rw [← e]
          exact hq'
        · intro z
          obtain ⟨p, hp, e⟩ := List.mem_map.mp (ma q z)
          have e : p.2 = [q.1, q.2] := e
          exact List.mem_map.mpr ⟨p, pm.mem_iff.mpr hp, by rw [e]; rfl⟩
      refine List.Perm.eq_of_pairwise (le := fun p q : Int × Int => ¬ (q.1 < p.1 ∨ (q.1 = p.1 ∧ q.2 < p.2))) (fun x y _ _ h1 h2 => Prod.ext (by omega) (by omega)) ?_ ?_ ((List.perm_ext_iff_of_nodup nd2 ndl).mpr mem)
      · rw [List.pairwise_map]
        exact pw.imp fun {x y} z => SrtO.lexB_no.mp z
      · exact hs.imp fun {x y} z => by omega
theorem ev_reprB {b : Bool} (h : Ev T te σ G b) : EvR T (tCB rReprB (tCons te tNil)) σ G (IsT' (if b then "True" else "False")) := fun H k Q q =>
  h H k _ fun v G1 H1 n1 r1 => by
    rw [dq_bool r1]
    exact ⟨b, rfl, q _ G1 H1 n1 (.str _)⟩
theorem ev_reprD {α : Type} [Enc α] {xs : List α} (h : Ev T te σ G xs) (h1 : (enc xs).showable = true) (h2 : (enc xs).hasDict = false) (h3 : (enc xs).depth ≤ 60) (h4 : (enc xs).shown.length ≤ sizeLine) : EvR T (tCB (rReprD K) (tCons te tNil)) σ G (IsT' (enc xs).shown) := fun H k Q q =>
  h H k _ fun v G1 H1 n1 r1 => by
    have r2 : Dp K H1 v (enc xs) := dp_of (dq_ex n1.kn.le r1)
    have r1 : Dq G1 v (.list (xs.map enc)) := r1
    cases r1 with
    | @lst a vs _ _ _ => exact ⟨a, enc xs, rfl, r2, h1, h2, h3, h4, q _ G1 H1 n1 (.str _)⟩
end
section
variable {P : Program} {w : World} {K : PySem.W.Frag} {mg : Str → Option Value} {base : Heap} {T : Tbs}
theorem def_okG {β : Type} {pre : β → Prop} {Rs : β → List Rp} {out : β → Out} {x qual : Str} {st : Stmt} {f : Addr} {fd : FuncData} {N ps : List Str} {k : Nat} (F : Fun K x qual st f fd) (S : FnScope N ps (defScope st)) (hl : ∀ b, (Rs b).length = ps.length) (hm : ∀ b, MonoA (Rs b))
    (body : ∀ b, pre b → ∀ (cdv : Value) (A : Around) (outer : List Env) (s : Shared) (G H : Hp) (σ : L2.St) (Q : VK) (E : XK), A.guards = some [] → Room k (A.deeper (envOfC qual (defScope st) s.heap.objs.size f cdv)) → Wish T G H Q E (out b) → Sat T G H G (G0s (Rs b) (N.length - ps.length)) σ G H →
      ∃ t, PSs (cxOf CX0 P w K mg base N qual (defScope st) f cdv A outer s H E).nox (defBody st) t ∧ t { nx := fun _ H' => Q .non H', rt := Q } σ H) : FnOkG P w K mg base CX0 (k + 1) f fd ps (Sp1 T pre Rs out) := by
  refine okG F S (fun vs H Q E h => ?_) (fun cdv A outer s H vs Q E hG hr h => ?_)
  · obtain ⟨b, _, G, _, w, _⟩ := h
    rw [allR_len w, hl]
  · obtain ⟨b, hb, G, k, w, q⟩ := h
    have z := sat_start (N := N) k (hm b) w
    rw [hl b] at z
    exact body b hb cdv A outer s G H _ Q E hG hr q z
end
end Ho

set_option Elab.async false
set_option linter.all false
set_option maxRecDepth 100000
namespace Ho
open PySem PySem.Spec PySem.Calls PyProof.Rows L2 LamX NdefX Ed Sx
open Ed.Enc (enc)
def rRemD (K : PySem.W.Frag) : V → List V → Hp → VK → Prop := fun x xs H Q => ∃ (l : Addr) (vs : List V) (ds : List PyData) (v : V) (d : PyData) (j : Nat), x = .ref l ∧ xs = [v] ∧ H l = some (.lst vs) ∧ DpAll K H vs ds ∧ Dp K H v d ∧ PyData.plainAll ds = true ∧ d.plain = true ∧ d.depth ≤ 60 ∧ SeqAt.dataPlace ds d = some j ∧ Q .non (upd H l (.lst (vs.eraseIdx j)))
theorem dpAll_len {K : PySem.W.Frag} {H : Hp} : ∀ {vs : List V} {ds : List PyData}, DpAll K H vs ds → vs.length = ds.length
  | _, _, .nil => rfl
  | _, _, .cons _ h => by rw [List.length_cons, List.length_cons, dpAll_len h]
theorem mt_remD {X : Cx} (hu : X.A.units + 64 < cLine) : MtM X "list.remove" (rRemD X.K) := by
  intro pins s σ H x xs v us Q I rx rxs h
  obtain ⟨l, vs, ds, y, d, j, rfl, rfl, hH, hds, hd, p1, p2, dep, hj, q⟩ := h
  cases rx
  obtain ⟨u, rfl, ru⟩ := rxs.one
  obtain ⟨z, its, n, r, hl, e⟩ := I.lstM hH
  obtain ⟨as, ra⟩ := Dp.readsAll I ds _ _ hds r
  obtain ⟨bs, rb⟩ := Dp.reads I d _ _ hd ru
  have hsz : its.toArray.size ≤ sizeLine := by
    rw [List.size_toArray]
    omega
  have hlen := dpAll_len hds
  have hjn : j < ds.length := (List.findIdx?_eq_some_iff_getElem.mp hj).1
  refine SeqAt.remove_list_data (vs := its.toArray) ⟨_, e, rfl, n, rfl⟩ (by simpa using ra) rb p1 p2 (by omega) hj hsz ?_
  refine ⟨.non, _, I.lset (its' := its.eraseIdx j) (t' := s.toks) hH e ?_ (r.eraseIdx j) ?_, rfl, q⟩
  · show its.toArray.eraseIdxIfInBounds j = (its.eraseIdx j).toArray
    rw [List.eraseIdxIfInBounds_toArray]
  · have z2 := List.length_eraseIdx_le vs j
    omega
theorem mt_remDK {X : Cx} {K : PySem.W.Frag} (h : X.K = K) (hu : X.A.units + 64 < cLine) : MtM X "list.remove" (rRemD K) := h ▸ mt_remD hu
theorem cr_minK {X : Cx} {K : PySem.W.Frag} (h : X.K = K) (hc : X.calm = true) : CallR X (.builtin "min") (rMin K) := h ▸ cr_min hc
theorem plain_pairs : ∀ ms : List (Int × Int), PyData.plainAll (ms.map enc) = true
  | [] => rfl
  | m :: ms => by
    rw [List.map_cons, PyData.plainAll, plain_pairs ms]
    rfl
theorem place_pair (q : Int × Int) : ∀ {ms : List (Int × Int)}, q ∈ ms → ∃ j, SeqAt.dataPlace (ms.map enc) (enc q) = some j ∧ ms.eraseIdx j = ms.erase q
  | [], h => by cases h
  | m :: ms, h => by
    unfold SeqAt.dataPlace
    rw [List.map_cons, List.findIdx?_cons]
    by_cases c : m = q
    · subst c
      rw [if_pos ((Enc.same m m).mpr rfl)]
      exact ⟨0, rfl, by simp⟩
    · have c2 : PyData.eqv (enc m) (enc q) = false := Bool.eq_false_iff.mpr fun z => c ((Enc.same _ _).mp z)
      rw [if_neg (by rw [c2]; exact Bool.false_ne_true)]
      obtain ⟨j, e1, e2⟩ := place_pair q ((List.mem_cons.mp h).resolve_left fun z => c z.symm)
      unfold SeqAt.dataPlace at e1
      rw [e1]
      refine ⟨j + 1, rfl, ?_⟩
      rw [List.erase_cons_tail (by simpa using c), ← e2]
      rfl
theorem erase_mapA {α β : Type} (f : α → β) : ∀ (l : List α) (j : Nat), (l.map f).eraseIdx j = (l.eraseIdx j).map f
  | [], j => by simp
  | a :: r, 0 => by simp
  | a :: r, j + 1 => by
    have ih := erase_mapA f r j
    simp [ih]
theorem da_erase {G : Hp} : ∀ {vs : List V} {ds : List PyData} (j : Nat), DqAll G vs ds → DqAll G (vs.eraseIdx j) (ds.eraseIdx j)
  | _, _, _, .nil => .nil
  | _, _, 0, .cons _ h => h
  | _, _, j + 1, .cons a h => .cons a (da_erase j h)
section
variable {T : Tbs} {K : PySem.W.Frag} {σ : L2.St} {G0 H0 F G H : Hp} {Γ Γ' : List Sl} {i j : Nat} {te ta tb : TE} {D : Ends}
theorem ev_minL {xs : List Int} {m : Int} (ha : Ev T ta σ G xs) (h0 : xs ≠ []) (h1 : m ∈ xs) (h2 : ∀ y ∈ xs, m ≤ y) : Ev T (tCB (rMin K) (tCons ta tNil)) σ G m := fun H k Q q =>
  ha H k _ fun v G1 H1 n1 r1 => by
    have r1 : Dq G1 v (.list (xs.map PyData.int)) := r1
    cases r1 with
    | @lst a vs _ g1 g2 =>
      have hv := da_ints_eq g2
      subst hv
      refine ⟨a, xs, rfl, .inl (.inl (n1.kn.le _ _ g1)), List.length_pos_iff.mpr h0, fun m' hm hy => ?_⟩
      have e : m' = m := Int.le_antisymm (hy m h1) (h2 m' hm)
      rw [e]
      exact q _ G1 H1 n1 (.int _)
theorem et_truD {α : Type} [Enc α] {xs : List α} (ha : Ev T ta σ G xs) : EvT T (fun σ H Q => ta σ H fun x H' => ∃ k, TruV K x H' k ∧ Q k H') σ G (!xs.isEmpty) := fun H k Q q =>
  ha H k _ fun v G1 H1 n1 r1 => by
    have r1 : Dq G1 v (.list (xs.map enc)) := r1
    cases r1 with
    | @lst a vs _ h1 h2 =>
      have hl := da_len h2
      refine ⟨!vs.isEmpty, .inl ⟨vs, .inl (.inl (n1.kn.le _ _ h1)), rfl⟩, ?_⟩
      have e : vs.isEmpty = xs.isEmpty := by
        rw [List.length_map] at hl
        cases vs <;> cases xs <;> first | rfl | cases hl
      rw [e]
      exact q G1 H1 n1
/-- xs.remove(x) of an own list of pairs -/
theorem st_remD {ms : List (Int × Int)} {x : Int × Int} (s : Sat T G0 H0 F Γ σ G H) (hi : Γ[i]? = some (.ow (OL (ms.map enc)))) (hx : x ∈ ms) (h : ∀ {G}, SatI (Γ.map hd) σ G → Ev T te σ G x) (c : ∀ G H, Sat T G0 H0 F (Γ.set i (.ow (OL ((ms.erase x).map enc)))) σ G H → D.nx σ H) :
    tDrop (tBM K "list" (rRemD K) (tVar i) (tCons te tNil)) D σ H := by
  obtain ⟨p, vs, e, z1, z2, r⟩ := s.own hi
  refine ⟨.ref p, e, tyV_lst z2, h s.hdI H s.kn _ fun v G2 H2 n rv => ?_⟩
  have s2 := s.step n
  obtain ⟨y1, y2⟩ := stays n z1 z2 nt_lst nu_lst
  obtain ⟨j, e1, e2⟩ := place_pair x hx
  have r2 := da_ex n.ex r
  have rv : Dq G2 v (enc x) := rv
  refine ⟨p, vs, ms.map enc, v, enc x, j, rfl, rfl, y2, da_of (da_ex n.kn.le r2), dp_of (dq_ex n.kn.le rv), plain_pairs ms, rfl, (by decide : (2 : Nat) ≤ 60) |> Nat.le_trans (Nat.le_trans (Enc.deep x) (by decide)), e1, c G2 _ (s2.mut hi e ⟨_, rfl, ?_⟩)⟩
  rw [← e2, ← erase_mapA]
  exact da_erase j r2
end
end Ho

set_option Elab.async false
set_option linter.all false
set_option maxRecDepth 100000
namespace Ru
open PySem PySem.Spec PySem.Calls PyProof.Rows L2 LamX NdefX
section
variable {prog : Program} {w : World} {A : Around} {E : Value → Shared → Prop} {s : Shared} {l : Addr} {its : List Value}
theorem min_len_raw {num : Nat → Nat} {Q : Value → Shared → Prop} (hh : A.handled = none) (hl : s.heap.IsList l its.toArray) (hne : 0 < its.length)
    (hi : ∀ i v, its[i]? = some v → ∃ b ys, v = .ref b ∧ s.heap.IsList b ys ∧ ys.size = num i ∧ ys.size ≤ sizeLine)
    (h : ∀ h' tk i v, (∀ b o, s.heap.get? b = some o → h'.get? b = some o) → its[i]? = some v → (∀ j, j < its.length → num i ≤ num j ∧ (j < i → num i < num j)) → Q v { s with heap := h', toks := tk }) :
    wpAny (model prog w) A (call (.builtin "min") [.ref l] [(Str.ofString "key", .builtin "len")]) Q E s := by
  have hn := line63
  have hlt : l < s.heap.objs.size := by
    obtain ⟨_, e, _⟩ := hl
    exact Heap.lt_size e
  refine call_min_walkKB (wpAny_pyIter_list hl ?_)
  have k0 : ∀ b o, s.heap.get? b = some o → (s.heap.push { cls := .type "list_iterator", data := .fields #[.ref l, .int 0 0] }).get? b = some o := fun b o e => Heap.get?_push_of_some _ e
  have hsz : (s.heap.push { cls := .type "list_iterator", data := .fields #[.ref l, .int 0 0] }).objs.size = s.heap.objs.size + 1 := Heap.size_push ..
  refine ⟨s.heap.objs.size, _, _, _, its.toArray.size, _, _, fun s' => (∀ b o, s.heap.get? b = some o → s'.heap.get? b = some o) ∧ s'.gens = s.gens ∧ s'.drawn = s.drawn ∧ s'.os = s.os, fun i v _ => i < its.length ∧ ∃ t, v = .int (num i : Int) t, fun i j => decide ((num i : Int) < (num j : Int)), rfl,
    (Walks.list (prog := prog) (w := w) (A := A.in1) hh s.heap.objs.size l (Nat.ne_of_lt hlt) its.toArray).toS, ⟨⟨_, Heap.get?_push_size _ rfl, rfl, rfl⟩, hl.push _⟩, fun b hb => ?_, by simpa using hne, ?_, ⟨k0, rfl, rfl, rfl⟩, ?_⟩
  · show b < (s.heap.push _).objs.size
    rw [hsz]
    rcases List.mem_cons.mp hb with rfl | hb
    · exact Nat.lt_succ_self _
    · rw [List.mem_singleton.mp hb]
      exact Nat.lt_succ_of_lt hlt
  · refine ⟨fun s1 s2 hJ hm => ⟨fun b o e => hm.heap b o (fun z => ?_) (hJ.1 b o e), hm.gens.trans hJ.2.1, hm.drawn.trans hJ.2.2.1, hm.os.trans hJ.2.2.2⟩, fun i k s1 s2 h _ => h, fun i v s1 o Q E hi' hP hJ hst hS hq => ?_, fun i j ki kj s1 Q E hJ h1 h2 hq => ?_⟩
    · have hb : b < s.heap.objs.size := Heap.lt_size e
      rcases List.mem_cons.mp z with z | z
      · subst z
        have hb : (s.heap.push { cls := .type "list_iterator", data := .fields #[.ref l, .int 0 0] }).objs.size < s.heap.objs.size := hb
        omega
      · rw [List.mem_singleton.mp z] at hb
        exact Nat.lt_irrefl _ hb
    · have hv : its[i]? = some v := by simpa using hP
      obtain ⟨b, ys, rfl, hb, e1, e2⟩ := hi i v hv
      refine call_len_list (hb.at fun o e => hJ.1 b o e) (by omega) ?_
      rw [e1]
      refine hq _ { s1 with toks := s1.toks + 2 } hJ hst hS ⟨by simpa using hi', _, rfl⟩ fun j k' h => h
    · obtain ⟨_, t1, rfl⟩ := h1
      obtain ⟨_, t2, rfl⟩ := h2
      exact richCompare_gives (op := .Lt) (typeIs_int s1 _ t1) (typeIs_int s1 _ t2) F.slot_int_lt F.entry_int_lt (F.args_int_lt_2 _ _) (gives_int_lt _ _ t1 t2) (fun x => nomatch x) hq
  · intro v s' hP hJ
    obtain ⟨hp, g, d, tk, os⟩ := s'
    obtain ⟨k, e1, e2, e3⟩ := hJ
    dsimp only at e1 e2 e3
    subst e1 e2 e3
    have hv : its[argBest (fun i j => decide ((num i : Int) < (num j : Int))) (its.toArray.size - 1)]? = some v := by simpa using hP
    have key : ∀ k, argBest (fun i j => decide ((num i : Int) < (num j : Int))) k ≤ k ∧ ∀ j, j ≤ k → num (argBest (fun i j => decide ((num i : Int) < (num j : Int))) k) ≤ num j ∧ (j < argBest (fun i j => decide ((num i : Int) < (num j : Int))) k → num (argBest (fun i j => decide ((num i : Int) < (num j : Int))) k) < num j) := by
      intro k
      induction k with
      | zero => exact ⟨Nat.le_refl _, fun j hj => by
          have e : j = 0 := by omega
          subst e
          exact ⟨Nat.le_refl _, fun z => absurd z (Nat.lt_irrefl 0)⟩⟩
      | succ k ih =>
        obtain ⟨i1, i2⟩ := ih
        simp only [argBest]
        by_cases c : (num (k + 1) : Int) < (num (argBest (fun i j => decide ((num i : Int) < (num j : Int))) k) : Int)
        · rw [if_pos (by simpa using c)]
          refine ⟨Nat.le_refl _, fun j hj => ?_⟩
          by_cases e : j = k + 1
          · subst e
            exact ⟨Nat.le_refl _, fun z => absurd z (Nat.lt_irrefl _)⟩
          · have := (i2 j (by omega)).1
            exact ⟨by omega, fun _ => by omega⟩
        · rw [if_neg (by simpa using c)]
          refine ⟨by omega, fun j hj => ?_⟩
          by_cases e : j = k + 1
          · subst e
            exact ⟨by omega, fun z => absurd i1 (by omega)⟩
          · exact i2 j (by omega)
    obtain ⟨k1, k2⟩ := key (its.toArray.size - 1)
    rw [List.size_toArray] at k1 k2 hv
    exact h hp tk _ v k hv fun j hj => k2 j (by omega)
end
def rMinLen (K : PySem.W.Frag) : List V → Hp → VK → Prop := fun vs H Q => ∃ (a : Addr) (bs : List Addr) (ys : List (List V)), vs = [V.ref a] ∧ SqL K H a (bs.map V.ref) ∧ 0 < bs.length ∧ Paired (fun b y => SqL K H b y) bs ys ∧
  ∀ i b, bs[i]? = some b → (∀ (j : Nat) (y z : List V), ys[i]? = some y → ys[j]? = some z → y.length ≤ z.length ∧ (j < i → y.length < z.length)) → Q (.ref b) H
section
variable {X : Cx} {x : Str} {p q pos kpos : Pos} {e : Expr} {t : TA}
theorem paired_at {α β : Type} {R : α → β → Prop} : ∀ {as : List α} {bs : List β}, Paired R as bs → ∀ {i : Nat} {a : α}, as[i]? = some a → ∃ b, bs[i]? = some b ∧ R a b
  | _, _, .nil, i, a, h => by simp at h
  | _, _, .cons r t, 0, a, h => ⟨_, rfl, by
    have h := Option.some.inj h
    subst h
    exact r⟩
  | _, _, .cons r t, i + 1, a, h => paired_at t h
theorem call_minLen {pins : List (Addr × Obj)} {σ : L2.St} {H : Hp} {s : Shared} {vs : List V} {us : List Value} {Q : VK} (hc : X.calm = true) (I : Inv X pins σ H s) (r : Vals vs us) (h : rMinLen X.K vs H Q) :
    wpAny (model X.prog X.w) X.A (call (.builtin "min") us [(Str.ofString "key", .builtin "len")]) (EP X pins σ Q) X.xe s := by
  obtain ⟨a, bs, ys, rfl, hs, hne, hp, q⟩ := h
  obtain rfl := Vals.ref1 r
  obtain ⟨its, rv, hl, hz⟩ := I.list hs
  have ei := refs_at rv
  subst ei
  have pl := Paired.length hp
  refine min_len_raw (num := fun i => ((ys[i]?).getD []).length) (I.ok.hd hc) hl.isList (by rw [List.length_map]; exact hne) (fun i v hv => ?_) fun h' tk i v k hv hb => ?_
  · rw [List.getElem?_map] at hv
    cases e : bs[i]? with
    | none => rw [e] at hv; cases hv
    | some b =>
      rw [e] at hv
      have hv := Option.some.inj hv
      obtain ⟨y, ey, hy⟩ := paired_at hp e
      obtain ⟨us, r2, l2, z2⟩ := I.list hy
      have len2 := r2.length
      refine ⟨b, us.toArray, hv.symm, l2.isList, ?_, ?_⟩
      · rw [List.size_toArray, ey, ← len2]
        rfl
      · rw [List.size_toArray, ← len2]
        exact z2
  · rw [List.getElem?_map] at hv
    cases e : bs[i]? with
    | none => rw [e] at hv; cases hv
    | some b =>
      rw [e] at hv
      have hv := Option.some.inj hv
      refine ⟨.ref b, H, I.kept (t' := tk) k, hv.symm, q i b e fun j y z hy hz => ?_⟩
      have hj : j < (bs.map Value.ref).length := by
        rw [List.length_map, pl]
        exact (List.getElem?_eq_some_iff.mp hz).1
      have w := hb j hj
      rw [hy, hz] at w
      exact w
theorem pe_minLen (hc : X.calm = true) (hg : Gl X "min") (hm : X.mg "min" = none) (hgl : Gl X "len") (hml : X.mg "len" = none) (ha : PA X [e] t)
    (he : backTo pos (starEach [e] X.env) = (false, eval e X.env) :: backTo pos (starEach [] X.env) := by rfl) (hpl : (backTo pos (starEach [e] X.env)).any (·.1) = false := by rfl) (hks : backToKw pos (keywordEach [⟨some (Str.ofString "key"), .Name "len" q, kpos⟩] X.env) = [(some (Str.ofString "key"), do let v ← eval (.Name "len" q) X.env; standAt pos; pure v)] := by rfl) :
    PE X (.Call (.Name "min" p) [e] [⟨some (Str.ofString "key"), .Name "len" q, kpos⟩] pos) (tCB (rMinLen X.K) t) := by
  refine ⟨fun pins s σ H Q I h => ?_⟩
  refine wpAny_Call_Name_kw (ld_blt I hg hm (show bootBuiltins "min" = some (.builtin "min") by decide +kernel) ?_)
  refine PyProof.Rows.callWith_kw (thn (ha.run pos pins s σ H _ I h) fun us s1 ⟨vs, H1, I1, r1, q1⟩ => ?_) he hpl (by rw [hks]; rfl) (by rw [hks]; rfl)
  rw [hks]
  refine wpAny_evalAll_cons (wpAny_bind (ld_blt I1 hgl hml (show bootBuiltins "len" = some (.builtin "len") by decide +kernel) (wpAny_bind (wpAny_standAt (wpAny_pure ?_)))))
  exact wpAny_evalAll_nil (call_minLen hc I1 r1 q1)
theorem pe_minLenK {K : PySem.W.Frag} (hK : X.K = K) (hc : X.calm = true) (hg : Gl X "min") (hm : X.mg "min" = none) (hgl : Gl X "len") (hml : X.mg "len" = none) (ha : PA X [e] t)
    (he : backTo pos (starEach [e] X.env) = (false, eval e X.env) :: backTo pos (starEach [] X.env) := by rfl) (hpl : (backTo pos (starEach [e] X.env)).any (·.1) = false := by rfl) (hks : backToKw pos (keywordEach [⟨some (Str.ofString "key"), .Name "len" q, kpos⟩] X.env) = [(some (Str.ofString "key"), do let v ← eval (.Name "len" q) X.env; standAt pos; pure v)] := by rfl) :
    PE X (.Call (.Name "min" p) [e] [⟨some (Str.ofString "key"), .Name "len" q, kpos⟩] pos) (tCB (rMinLen K) t) := hK ▸ pe_minLen hc hg hm hgl hml ha he hpl hks
end
end Ru

set_option Elab.async false
set_option linter.all false
set_option maxRecDepth 100000
namespace Ru
open PySem PySem.Spec PySem.Calls PyProof.Rows L2 LamX NdefX
abbrev TK (P : Program) (w : World) := tupleKind (mixKind P w)
def mergeT (kvs more : List (List Key × V)) : List (List Key × V) := more.foldl (fun acc kv => putK acc kv.1 kv.2) kvs
theorem tk_is_keeps {prog : Program} {w : World} {h h' : Heap} {k : List Key} {a : Addr} (hk : (TK prog w).is h k a) (e : ∀ o, h.get? a = some o → h'.get? a = some o) : (TK prog w).is h' k a := by
  obtain ⟨o, its, n, h1, h2, h3, h4⟩ := hk
  exact ⟨o, its, n, e o h1, h2, h3, h4⟩
theorem tk_is_lt {prog : Program} {w : World} {h : Heap} {k : List Key} {a : Addr} (hk : (TK prog w).is h k a) : a < h.objs.size := by
  obtain ⟨o, its, n, h1, _⟩ := hk
  exact Heap.lt_size h1
theorem kt_merge {H : Hp} : ∀ {trs : List (List Key × Addr × V)} {prs : List (List Key × Addr × Value)} {kvs : List (List Key × V)} {xs : List (List Key × Addr × Value)},
    Paired (fun t p => p.1 = t.1 ∧ p.2.1 = t.2.1 ∧ RelV t.2.2 p.2.2 ∧ H t.2.1 = some (.tup (t.1.map kV))) trs prs → KT H kvs xs → KT H (mergeT kvs (trs.map fun t => (t.1, t.2.2))) (storedAllH xs prs)
  | _, _, _, _, .nil, q => q
  | _, _, _, _, .cons (a := t) (b := p) ⟨e1, e2, r, ht⟩ rest, q => by
    unfold mergeT storedAllH
    rw [List.map_cons, List.foldl_cons, List.foldl_cons]
    rw [e1, e2]
    exact kt_merge rest (q.put t.1 ht r)
theorem len_mergeT : ∀ (more kvs : List (List Key × V)), (mergeT kvs more).length ≤ kvs.length + more.length
  | [], kvs => Nat.le_refl _
  | p :: more, kvs => by
    have a := len_mergeT more (putK kvs p.1 p.2)
    have b := length_putK kvs p.1 p.2
    unfold mergeT at *
    rw [List.foldl_cons, List.length_cons]
    omega
def rDictT (K : PySem.W.Frag) : List V → Hp → VK → Prop := fun xs H Q => ∃ (a : Addr) (ps : List Addr) (trs : List (List Key × Addr × V)), xs = [.ref a] ∧ SqL K H a (ps.map V.ref) ∧ Paired (fun p t => SqT K H p [.ref t.2.1, t.2.2] ∧ H t.2.1 = some (.tup (t.1.map kV))) ps trs ∧
    ∀ p, H p = none → Q (.ref p) (upd H p (.dT (mergeT [] (trs.map fun t => (t.1, t.2.2)))))
section
variable {X : Cx}
theorem tups_of {pins : List (Addr × Obj)} {σ : L2.St} {H : Hp} {s : Shared} (I : Inv X pins σ H s) : ∀ {ps : List Addr} {trs : List (List Key × Addr × V)}, Paired (fun p t => SqT X.K H p [.ref t.2.1, t.2.2] ∧ H t.2.1 = some (.tup (t.1.map kV))) ps trs →
    ∃ prs : List (List Key × Addr × Value), Paired (fun t p => p.1 = t.1 ∧ p.2.1 = t.2.1 ∧ RelV t.2.2 p.2.2 ∧ H t.2.1 = some (.tup (t.1.map kV))) trs prs ∧ prs.length = ps.length ∧ ∀ (j : Nat) (q : List Key × Addr × Value), prs[j]? = some q → ∃ b : Addr, ps[j]? = some b ∧ IsTup s.heap b #[.ref q.2.1, q.2.2] ∧ (TK X.prog X.w).is s.heap q.1 q.2.1
  | _, _, .nil => ⟨[], .nil, rfl, fun j q e => by simp at e⟩
  | _, _, .cons (a := p) (b := t) ⟨h, ht⟩ rest => by
    obtain ⟨prs, r, hl, hp⟩ := tups_of I rest
    obtain ⟨its, rv, htu, _⟩ := I.tuple h
    obtain ⟨u, y, ei, ru, ry⟩ := vals2 rv
    subst ei
    obtain rfl : u = Value.ref t.2.1 := ru
    refine ⟨(t.1, t.2.1, y) :: prs, .cons ⟨rfl, rfl, ry, ht⟩ r, by rw [List.length_cons, List.length_cons, hl], fun j q e => ?_⟩
    cases j with
    | zero =>
      have e' : (t.1, t.2.1, y) = q := Option.some.inj e
      subst e'
      exact ⟨p, rfl, htu, key_of I.hok ht⟩
    | succ j =>
      obtain ⟨b, e1, e2, e3⟩ := hp j q (by simpa using e)
      exact ⟨b, by simpa using e1, e2, e3⟩
theorem cr_dictT (hc : X.calm = true) (hu : X.A.units + 64 < cLine) : CallR X (.type "dict") (rDictT X.K) := by
  intro pins s σ H xs us Q I r q
  obtain ⟨a, ps, trs, ex, hq, hp, q⟩ := q
  subst ex
  obtain ⟨u, eu, rx⟩ := vals1 r
  subst eu
  cases rx
  obtain ⟨its, rv, pl, hz⟩ := I.list hq
  have ei := refs_at rv
  subst ei
  rw [List.length_map] at hz
  obtain ⟨prs, rel, hl, hpr⟩ := tups_of I hp
  obtain ⟨o, n, ho, hcl, hd, hdat⟩ := pl
  have pn : prs.length ≤ sizeLine := by
    rw [hl]
    exact hz
  refine PySem.call_dict_pairsH (knd := TK X.prog X.w) (ps := prs) (PairArg.list a (ps.map Value.ref).toArray (fun j => (ps[j]?).getD 0) (prs.map fun p => (Value.ref p.2.1, p.2.2))) (I.ok.hd hc) (tupleKind_room_in1 (by show X.A.units + 1 + 1 < cLine; omega)) ⟨⟨o, n, ho, hcl, hd, hdat⟩, by simp [hl], fun j k v e => ?_⟩ ⟨by simp, fun i key v e => ?_⟩ (fun h' kk x hx => ?_) (by rw [List.length_map]; exact pn) fun h' tk hd' k => ?_
  · rw [List.getElem?_map] at e
    cases ep : prs[j]? with
    | none => rw [ep] at e; cases e
    | some p =>
      rw [ep] at e
      obtain ⟨b, e1, e2, e3⟩ := hpr j p ep
      have e := Option.some.inj e
      obtain ⟨rfl, rfl⟩ := Prod.mk.inj e
      refine ⟨by simp [e1], .inl ?_⟩
      show s.heap.IsTuple ((ps[j]?).getD 0) _
      rw [e1]
      exact e2
  · have e : (prs.map fun p => (Value.ref p.2.1, p.2.2))[i]? = some (key, v) := e
    rw [List.getElem?_map] at e
    cases ep : prs[i]? with
    | none => rw [ep] at e; cases e
    | some p =>
      rw [ep] at e
      obtain ⟨rfl, rfl⟩ := Prod.mk.inj (Option.some.inj e)
      exact ⟨p.1, p.2.1, rfl, rfl⟩
  · obtain ⟨j, hj, ej⟩ := List.getElem_of_mem hx
    obtain ⟨b, e1, e2, e3⟩ := hpr j x (by rw [List.getElem?_eq_getElem hj, ej])
    exact tk_is_keeps e3 fun o z => kk _ o (Nat.ne_of_lt (tk_is_lt e3)) List.not_mem_nil z
  · have hm : (s.heap.objs.size == sysModules) = false := beq_eq_false_iff_ne.mpr (Nat.ne_of_gt I.big)
    have tl := Paired.length rel
    have hlen : (mergeT [] (trs.map fun t => (t.1, t.2.2))).length ≤ sizeLine := by
      refine Nat.le_trans (len_mergeT _ _) ?_
      rw [List.length_nil, Nat.zero_add, List.length_map, tl, hl]
      exact hz
    have fr : H s.heap.objs.size = none := I.hok.fresh (Nat.le_refl _)
    have kt : KT H (mergeT [] (trs.map fun t => (t.1, t.2.2))) (storedAllH [] prs) := kt_merge rel .nil
    obtain ⟨q2, es, ep, hq2, h2, h3, h4, _, h5⟩ := hd'
    exact ⟨.ref s.heap.objs.size, upd H s.heap.objs.size (.dT (mergeT [] (trs.map fun t => (t.1, t.2.2)))), I.laid (t' := tk) (fun b o e => k b o List.not_mem_nil e) (Nat.le_refl _) ⟨hlen, hm, storedAllH [] prs, kt.keeps fun b ys e => by
      rw [upd_ne fun z => by rw [z, fr] at e; cases e]
      exact e, q2, es, ep, hq2, h2, h3, h4, h5⟩, rfl, q _ fr⟩
theorem cr_dictTK {K : PySem.W.Frag} (h : X.K = K) (hc : X.calm = true) (hu : X.A.units + 64 < cLine) : CallR X (.type "dict") (rDictT K) := h ▸ cr_dictT hc hu
end
end Ru

set_option Elab.async false
set_option linter.all false
set_option maxRecDepth 100000
namespace Ru
open PySem PySem.Spec PySem.Calls PyProof.Rows L2 LamX NdefX Sx
theorem keys_rows {H : Hp} : ∀ {kvs : List (List Key × V)} {xs : List (List Key × Addr × Value)} {ks : List (Int × Int)}, KT H kvs xs → kvs.map (·.1) = ks.map (fun q => [Sum.inl q.1, Sum.inl q.2]) →
    ∃ L : List (Addr × (Int × Int)), L.map (·.1) = xs.map (fun x => x.2.1) ∧ L.map (·.2) = ks ∧ ∀ q ∈ L, H q.1 = some (.tup [.int q.2.1, .int q.2.2])
  | _, _, [], .nil, _ => ⟨[], rfl, rfl, fun q hq => by cases hq⟩
  | _, _, _ :: _, .nil, e => by cases e
  | _, _, [], .cons _ _, e => by cases e
  | _, _, k :: ks, .cons (a := kv) (b := x) ⟨h1, h2, _⟩ t, e => by
    rw [List.map_cons, List.map_cons] at e
    injection e with e1 e2
    obtain ⟨L, a, b, c⟩ := keys_rows t e2
    refine ⟨(x.2.1, k) :: L, by rw [List.map_cons, a, List.map_cons], by rw [List.map_cons, b], fun q hq => ?_⟩
    rcases List.mem_cons.mp hq with z | z
    · rw [z]
      have e1 : kv.1 = [Sum.inl k.1, Sum.inl k.2] := e1
      rw [e1] at h2
      exact h2
    · exact c q z
/-- a dict's keys, gathered into a list; the heap has grown -/
theorem gather_keys {prog : Program} {w : World} {A : Around} {E : Value → Shared → Prop} {s : Shared} {d : Addr} {o : Obj} {es : Array DictEntry} {ep : Nat} {Q : List Value → Shared → Prop} (hs : (d == sysModules) = false) (ho : s.heap.get? d = some o) (hx : o.ExactDict) (hd : o.data = .dict es ep) (hh : A.handled = none) (hn : es.size ≤ sizeLine)
    (h : ∀ (h1 : Heap) (tk1 : Nat) (acc : Array Value), (∀ b u, s.heap.get? b = some u → h1.get? b = some u) → s.heap.objs.size ≤ h1.objs.size → ItemsOf (fun i v => ∃ en : DictEntry, es[i]? = some en ∧ v = en.key) acc es.size → Q acc.toList { s with heap := h1, toks := tk1 }) :
    wpAny (model prog w) A (collect (.ref d)) Q E s := by
  have lt := Heap.lt_size ho
  have nd : s.heap.objs.size ≠ d := Nat.ne_of_gt lt
  unfold collect
  refine wpAny_bind (wpAny_runValue ?_)
  refine codeAny_builtin F.entry_proto_collect ?_
  rw [Around.under_plainId F.plain_proto_collect _]
  refine wpAny_bind (m := newList []) (wpAny_newObj_type (wpAny_pure ⟨plainId_quiet F.plain_list_iadd _, ?_⟩))
  refine codeAny_builtin F.entry_list_iadd ?_
  rw [Around.under_plainId F.plain_list_iadd _]
  have grown : ∀ b u, s.heap.get? b = some u → (s.heap.push { cls := .type "list", data := .seq ([] : List Value).toArray }).get? b = some u := fun b u e => Heap.get?_push_of_some _ e
  have ext := PySem.W.kdl_extend (prog := prog) (w := w) (A := A) (s := { s with heap := s.heap.push { cls := .type "list", data := .seq ([] : List Value).toArray } })
    (R := fun r s1 => r = .ok (.ret (.ref s.heap.objs.size)) ∧ ∃ (h1 : Heap) (tk1 : Nat) (acc : Array Value) (c : Nat), s1 = { s with heap := h1, toks := tk1 } ∧ (∀ b u, s.heap.get? b = some u → h1.get? b = some u) ∧ h1.get? s.heap.objs.size = some { cls := .type "list", dict := none, data := .seq acc c, slots := #[] } ∧ ItemsOf (fun i v => ∃ en : DictEntry, es[i]? = some en ∧ v = en.key) acc es.size)
    (kdl_raw hs hx hd) hh (grown _ _ ho) s.heap.objs.size nd nd (.ref s.heap.objs.size) 0 (Heap.get?_push_size _ rfl)
    (fun h1 tk1 acc c k e it => ⟨rfl, h1, tk1, acc, c, rfl, fun b u q => k b u (Nat.ne_of_lt (Heap.lt_size q)) (grown _ _ q), e, it⟩) hn
  refine wpAny_mono ext (fun fin s1 z => ?_) fun e s1 z => by cases z.1
  have fin2 : ∀ {r : Result} {s1 : Shared}, (r = .ok (.ret (.ref s.heap.objs.size)) ∧ ∃ (h1 : Heap) (tk1 : Nat) (acc : Array Value) (c : Nat), s1 = { s with heap := h1, toks := tk1 } ∧ (∀ b u, s.heap.get? b = some u → h1.get? b = some u) ∧ h1.get? s.heap.objs.size = some { cls := .type "list", dict := none, data := .seq acc c, slots := #[] } ∧ ItemsOf (fun i v => ∃ en : DictEntry, es[i]? = some en ∧ v = en.key) acc es.size) →
      ∃ h1 tk1 acc c, s1 = { s with heap := h1, toks := tk1 } ∧ h1.get? s.heap.objs.size = some { cls := .type "list", dict := none, data := .seq acc c, slots := #[] } ∧ Q acc.toList { s with heap := h1, toks := tk1 } := fun ⟨_, h1, tk1, acc, c, e, k, g, it⟩ => ⟨h1, tk1, acc, c, e, g, h h1 tk1 acc k (Nat.le_of_lt (Heap.lt_size g)) it⟩
  cases fin with
  | done f =>
    obtain ⟨h1, tk1, acc, c, e, g, q⟩ := fin2 z
    have e0 := z.1
    cases e0
    subst e
    exact wpAny_bind (wpAny_load g (wpAny_pure q))
  | again c1 =>
    refine ⟨z.1, codeAny_mono z.2 fun r s2 y => ?_⟩
    obtain ⟨h1, tk1, acc, c, e, g, q⟩ := fin2 y
    have e0 := y.1
    subst e0 e
    exact wpAny_bind (wpAny_load g (wpAny_pure q))
theorem vals_refs2 {α : Type} : ∀ L : List (Addr × α), Vals (L.map fun q => V.ref q.1) (L.map fun q => Value.ref q.1)
  | [] => .nil
  | _ :: r => .cons rfl (vals_refs2 r)
def rSortT (K : PySem.W.Frag) : List V → Hp → VK → Prop := fun vs H Q => ∃ (d : Addr) (kvs : List (List Key × V)) (ks : List (Int × Int)), vs = [V.ref d] ∧ Rd H d (.dT kvs) ∧ kvs.map (·.1) = ks.map (fun q => [Sum.inl q.1, Sum.inl q.2]) ∧ ks.length ≤ 4000 ∧
  ∀ (L : List (Addr × (Int × Int))) (p : Addr), (L.map (·.2)).Perm ks → (∀ q ∈ L, H q.1 = some (.tup [.int q.2.1, .int q.2.2])) → L.Pairwise (fun q r => SrtO.lexB r.2 q.2 = false) → H p = none → Q (.ref p) (upd H p (.lst (L.map fun q => V.ref q.1)))
section
variable {X : Cx}
theorem cr_sortT (hc : X.calm = true) : CallR X (.builtin "sorted") (rSortT X.K) := by
  intro pins s σ H vs us Q I r h
  obtain ⟨d, kvs, ks, rfl, hd, hks, hN, q⟩ := h
  rw [Vals.ref1 r]
  obtain ⟨z, hs, xs, pr, o, es, ep, ho, hx, hdt, he, hn⟩ := (show ObjOk X.prog X.w H s.heap d (.dT kvs) from hd.ok I.hok)
  have l1 : es.size = xs.length := size_of_entries he
  obtain ⟨L, La, Lk, Lh⟩ := keys_rows pr hks
  have l2 : L.length = xs.length := by
    have z := congrArg List.length La
    rw [List.length_map, List.length_map] at z
    exact z
  have l3 : L.length = ks.length := by
    have z := congrArg List.length Lk
    rw [List.length_map] at z
    exact z
  refine Calls.call_function_entry kind_sorted plain_sorted entry_sorted (args_sorted1 _) ?_
  unfold Builtin.«sorted»
  refine wpAny_bind (m := checkCount "sorted" 1 1 _) (wpAny_pure ?_)
  refine wpAny_bind (gather_keys (A := X.A.in1) hs ho hx hdt (I.ok.hd hc) (by rw [sizeLine_eq]; omega) fun h1 tk1 acc k1 hz it => ?_)
  have ea : acc.toList = L.map fun q => Value.ref q.1 := by
    have e0 : (L.map fun q => Value.ref q.1) = xs.map fun x => Value.ref x.2.1 := by
      have z := congrArg (List.map Value.ref) La
      rw [List.map_map, List.map_map] at z
      exact z
    rw [e0]
    have hl : acc.toList.length = xs.length := by rw [Array.length_toList, it.1]; exact l1
    apply List.ext_getElem?
    intro j
    rw [List.getElem?_map]
    cases hj : acc.toList[j]? with
    | none =>
      have h1 := List.getElem?_eq_none_iff.mp hj
      rw [List.getElem?_eq_none (by omega)]
      all_goals rfl
    | some v =>
      obtain ⟨en, hen, hv⟩ := it.2 j v (by rw [← Array.getElem?_toList]; exact hj)
      have qe := entry_at he j
      rw [hen] at qe
      cases hb : xs[j]? with
      | none =>
        rw [hb] at qe
        exact nomatch (show some en = none from qe)
      | some b =>
        rw [hb] at qe
        have e2 : en = entryOfKey (tupleKind (mixKind X.prog X.w)) b := Option.some.inj qe
        rw [hv, e2]
        all_goals rfl
  rw [ea]
  have hvl : (L.map fun q => Value.ref q.1).length ≤ 4000 := by
    rw [List.length_map]
    omega
  refine wpAny_bind (wpAny_newList ?_ (by rw [sizeLine_eq]; omega))
  have hoL : (h1.push (seqObj "list" (L.map fun q => Value.ref q.1).toArray 0)).get? h1.objs.size = some (seqObj "list" (L.map fun q => Value.ref q.1).toArray 0) := Heap.get?_push_size _ rfl
  have tk : ∀ q ∈ L, IsT X.prog X.w s.heap [q.2.1, q.2.2] q.1 := fun q hq => I.isT (show SqT X.K H q.1 ([q.2.1, q.2.2].map V.int) from .inl (.inl (Lh q hq)))
  have key : ∀ q ∈ L, ∀ h : Heap, (∀ b u, s.heap.get? b = some u → h.get? b = some u) → kOf (TS.intsOf h (.ref q.1)) = q.2 := fun q hq h kk => by
    rw [(tupInts_of (P := X.prog) (w := X.w) (isT_kept (tk q hq) kk)).ints]
    rfl
  have hp : ∀ v ∈ (L.map fun q => Value.ref q.1), Srt.IsPair h1 v (kOf (TS.intsOf h1 v)).1 (kOf (TS.intsOf h1 v)).2 := fun v hv => by
    obtain ⟨q, hq, e⟩ := List.mem_map.mp hv
    subst e
    rw [key q hq h1 k1]
    have z := isT_kept (tk q hq) k1
    obtain ⟨o2, its, n2, ho2, hc2, hd2, hi2⟩ := z
    have z2 := ints_of_items hi2
    have ei := Array.toArray_toList (xs := its)
    generalize its.toList = l at z2 ei
    cases z2 with
    | cons n t hr =>
      cases hr with
      | cons n' t' hr' =>
        cases hr'
        rw [← ei] at hd2
        exact ⟨q.1, o2, _, _, n2, rfl, ho2, hc2, hd2⟩
  refine wpAny_bind (wpAny_holding (wpAny_call_entry slot_list_sort ⟨_, hoL, rfl⟩ entry_list_sort (SrtO.list_sort_ord (SrtO.swo_lex fun v => kOf (TS.intsOf h1 v)) hoL (by rw [sizeLine_eq]; omega) (fun h2 => ?_) fun out hs hb => ⟨_, rfl, ?_⟩) (args_list_sort _)))
  · refine SrtO.pairs_sortableO (s := { s with heap := h1.push (seqObj "list" (L.map fun q => Value.ref q.1).toArray 0), toks := tk1 }) (by omega) (fun v hm => (hp v hm).keeps fun b o e _ => Heap.get?_push_of_some _ e) fun o e => ?_
    have e' : some o = some (seqObj "list" (L.map fun q => Value.ref q.1).toArray 0) := e.symm.trans hoL
    cases e'
    intro c
    exact absurd (Value.type.inj c) (by decide)
  · obtain ⟨L2, p2, e2⟩ := perm_of_map (fun q : Addr × (Int × Int) => Value.ref q.1) hb.perm L rfl
    obtain ⟨c, hc2⟩ := sortedHeap_at (vs := L.map fun q => Value.ref q.1) (out := out.toArray) hoL
    have hnn : H h1.objs.size = none := I.hok.fresh hz
    have k2 : ∀ b u, s.heap.get? b = some u → (sortedHeap (h1.push (seqObj "list" (L.map fun q => Value.ref q.1).toArray 0)) h1.objs.size (L.map fun q => Value.ref q.1) out.toArray).get? b = some u := fun b u e => by
      have z := k1 b u e
      have hlt := Heap.lt_size z
      rw [sortedHeap_old (Nat.ne_of_lt hlt) (by rw [size_push']; exact Nat.lt_succ_of_lt hlt)]
      exact Heap.get?_push_of_some _ z
    have hlen : (L2.map fun q => V.ref q.1).length ≤ sizeLine := by
      rw [List.length_map, p2.length_eq, sizeLine_eq]
      omega
    have hv : Vals (L2.map fun q => V.ref q.1) out := by
      rw [e2]
      exact vals_refs2 L2
    have pw : L2.Pairwise (fun q r => SrtO.lexB r.2 q.2 = false) := by
      have z : out.Pairwise (fun x y => SrtO.lexB (kOf (TS.intsOf h1 y)) (kOf (TS.intsOf h1 x)) = false) := hs
      rw [e2, List.pairwise_map] at z
      refine List.Pairwise.imp_of_mem (fun {q r} hq hr y => ?_) z
      rw [key q (p2.mem_iff.mp hq) h1 k1, key r (p2.mem_iff.mp hr) h1 k1] at y
      exact y
    have J : Inv X pins σ (upd H h1.objs.size (.lst (L2.map fun q => V.ref q.1))) { s with heap := sortedHeap (h1.push (seqObj "list" (L.map fun q => Value.ref q.1).toArray 0)) h1.objs.size (L.map fun q => Value.ref q.1) out.toArray, toks := tk1 } :=
      I.call (ch := []) (Un.laid k2 hz hnn) (I.hok.laid k2 hz ⟨hlen, out, c, hv, hc2⟩) I.bare (fun _ z => nomatch z)
    refine wpAny_pure ⟨_, rfl, ?_⟩
    have pm : (L2.map (·.2)).Perm ks := by
      rw [← Lk]
      exact p2.map _
    exact ⟨.ref _, _, J, rfl, q L2 _ pm (fun q hq => Lh q (p2.mem_iff.mp hq)) pw hnn⟩
theorem cr_sortTK {K : PySem.W.Frag} (h : X.K = K) (hc : X.calm = true) : CallR X (.builtin "sorted") (rSortT K) := h ▸ cr_sortT hc
end
end Ru

set_option Elab.async false
set_option linter.all false
set_option maxRecDepth 100000
namespace Ho
open PySem PySem.Spec PySem.Calls PyProof.Rows L2 LamX NdefX Ed Sx Ru
open Ed.Enc (enc)
theorem nt_dT' {kvs : List (List Key × V)} : ∀ ps, HO.dT kvs ≠ .tbl ps := fun ps z => by cases z
theorem Sat.ownT {T : Tbs} {σ : L2.St} {G0 H0 F G H : Hp} {Γ : List Sl} {i : Nat} {ps : List (Int × Int)} (s : Sat T G0 H0 F Γ σ G H) (hi : Γ[i]? = some (.ow (OT ps))) : ∃ p kvs, σ[i]? = some (some (.ref p)) ∧ G p = none ∧ H p = some (.dT kvs) ∧ kvs.map (·.1) = ps.map keyP := by
  obtain ⟨p, o, e, z0, z1, z2, vs, rfl, r⟩ := s.ow i _ hi
  exact ⟨p, vs, e, z1, z2, r⟩
section
variable {T : Tbs} {K : PySem.W.Frag} {σ : L2.St} {G0 H0 F G H : Hp} {Γ Γ' : List Sl} {i j : Nat} {te ta tb ty td tv : TE} {D : Ends} {ps qs : List (Int × Int)}
theorem st_dputT {a b : Int} {x : V} (s : Sat T G0 H0 F Γ σ G H) (hi : Γ[i]? = some (.ow (OT ps))) (hz : ps.length < 100000) (hx : ∀ {G}, SatI (Γ.map hd) σ G → Ev T ty σ G (a, b)) (c : ∀ G H, Sat T G0 H0 F (Γ.set i (.ow (OT (Sw.putP ps (a, b))))) σ G H → D.nx σ H) : sDPut (tVar i) ty (tC x) D σ H := by
  obtain ⟨p, kvs, e, z1, z2, r⟩ := s.ownT hi
  have hl := congrArg List.length r
  rw [List.length_map, List.length_map] at hl
  refine ⟨.ref p, e, hx s.hdI H s.kn _ fun v G2 H2 n rv => ?_⟩
  have s2 := s.step n
  obtain ⟨y1, y2⟩ := stays n z1 z2 nt_dT nu_dT
  obtain ⟨q, rfl, hq⟩ := pair_at rv
  refine ⟨p, _, rfl, DPut.t (k := keyP (a, b)) (v := x) y2 (n.kn.le _ _ hq) (Nat.lt_of_lt_of_le (show kvs.length < 100000 by omega) (by decide)), c _ _ (s2.mut hi e ⟨_, rfl, ?_⟩)⟩
  rw [putK_keys, r]
  unfold Sw.putP
  by_cases z : (a, b) ∈ ps
  · rw [if_pos (mem_keyP.mpr z), if_pos z]
  · rw [if_neg (fun y => z (mem_keyP.mp y)), if_neg z, List.map_append]
    rfl
theorem ev_lenT (h : EvR T te σ G (IsT ps)) : Ev T (tCB rLenT (tCons te tNil)) σ G (ps.length : Int) := fun H k Q q =>
  h H k _ fun v G1 H1 n1 r1 => by
    obtain ⟨d, kvs, rfl, h1, h2⟩ := r1
    have hl := congrArg List.length h2
    rw [List.length_map, List.length_map] at hl
    refine ⟨d, kvs, rfl, n1.kn.le _ _ h1, ?_⟩
    rw [hl]
    exact q _ G1 H1 n1 (.int _)
theorem keys_mergeT : ∀ (more kvs : List (List Key × V)) (ps qs : List (Int × Int)), kvs.map (·.1) = ps.map keyP → more.map (·.1) = qs.map keyP → (mergeT kvs more).map (·.1) = (Sw.putAll ps qs).map keyP
  | [], kvs, ps, [], h, _ => h
  | [], _, _, _ :: _, _, e => by cases e
  | _ :: _, _, _, [], _, e => by cases e
  | m :: more, kvs, ps, q :: qs, h, e => by
    rw [List.map_cons, List.map_cons] at e
    injection e with e1 e2
    unfold mergeT Sw.putAll
    rw [List.foldl_cons, List.foldl_cons]
    refine keys_mergeT more _ _ qs ?_ e2
    have e1 : m.1 = keyP q := e1
    rw [e1, putK_keys, h]
    unfold Sw.putP
    by_cases z : q ∈ ps
    · rw [if_pos (mem_keyP.mpr z), if_pos z]
    · rw [if_neg (fun y => z (mem_keyP.mp y)), if_neg z, List.map_append]
      rfl
theorem pairs_trs {G : Hp} : ∀ {vs : List V} {ps : List (Int × Int)}, DqAll G vs ((ps.map fun p => (p, true)).map enc) →
    ∃ (as : List Addr) (trs : List (List Key × Addr × V)), vs = as.map V.ref ∧ Paired (fun p t => G p = some (.tup [.ref t.2.1, t.2.2]) ∧ G t.2.1 = some (.tup (t.1.map kV))) as trs ∧ trs.map (·.1) = ps.map keyP
  | _, [], .nil => ⟨[], [], rfl, .nil, rfl⟩
  | _, p :: ps, .cons h t => by
    obtain ⟨as, trs, e1, e2, e3⟩ := pairs_trs t
    have h : Dq G _ (.tuple [enc p, .bool true]) := h
    cases h with
    | @tup a us _ g1 g2 =>
      cases g2 with
      | cons r1 g3 =>
        cases g3 with
        | cons r2 g4 =>
          cases g4
          cases r2
          have r1 : Dq G _ (enc (p.1, p.2)) := r1
          obtain ⟨b, rfl, hb⟩ := pair_at r1
          exact ⟨a :: as, (keyP p, b, .bl true) :: trs, by rw [List.map_cons, e1], .cons ⟨g1, hb⟩ e2, by rw [List.map_cons, List.map_cons, e3]⟩
/-- dict([(p, True) for p in ps]) -/
theorem eo_dictT (h : Ev T te σ G (ps.map fun p => (p, true))) : EvO' T (tCB (rDictT K) (tCons te tNil)) σ G (OT (Sw.putAll [] ps)) := fun H k Q q =>
  h H k _ fun v G1 H1 n1 r1 => by
    have r1 : Dq G1 v (.list ((ps.map fun p => (p, true)).map enc)) := r1
    cases r1 with
    | @lst a vs _ g1 g2 =>
      obtain ⟨as, trs, rfl, e2, e3⟩ := pairs_trs g2
      refine ⟨a, as, trs, rfl, .inl (.inl (n1.kn.le _ _ g1)), Paired.mapP e2 fun p t z => ⟨.inl (.inl (n1.kn.le _ _ z.1)), n1.kn.le _ _ z.2⟩, fun d hd => q d _ G1 _ (n1.trans (Nx.fresh n1.kn hd)) (n1.dom d hd) (n1.kn.none hd) upd_same ⟨_, rfl, ?_⟩⟩
      refine keys_mergeT _ [] [] ps rfl ?_
      rw [List.map_map, ← e3]
      rfl
/-- sorted(d) -/
theorem en_sortT (h : EvR T te σ G (IsT ps)) (hl : ps.length ≤ 4000) : EvN T (tCB (rSortT K) (tCons te tNil)) σ G (Sw.srtP ps) := fun H k Q q =>
  h H k _ fun v G1 H1 n1 r1 => by
    obtain ⟨d, kvs, rfl, h1, h2⟩ := r1
    refine ⟨d, kvs, ps, rfl, .inl (n1.kn.le _ _ h1), h2, hl, fun L p pm hL pw hp => ?_⟩
    obtain ⟨G2, e2, eB, n2⟩ := n1.know (B := fun a => if a ∈ L.map (·.1) then H1 a else none) fun a o e => by
      by_cases ha : a ∈ L.map (·.1)
      · have e' : H1 a = some o := by
          have z : (if a ∈ L.map (·.1) then H1 a else none) = some o := e
          rw [if_pos ha] at z
          exact z
        obtain ⟨q, hq, rfl⟩ := List.mem_map.mp ha
        have z := hL q hq
        rw [e'] at z
        exact ⟨⟨_, Option.some.inj z⟩, e'⟩
      · have z : (if a ∈ L.map (·.1) then H1 a else none) = some o := e
        rw [if_neg ha] at z
        cases z
    have hG : ∀ q ∈ L, G2 q.1 = some (.tup [.int q.2.1, .int q.2.2]) := fun q hq => by
      refine eB _ _ ?_
      show (if q.1 ∈ L.map (·.1) then H1 q.1 else none) = _
      rw [if_pos (List.mem_map.mpr ⟨q, hq, rfl⟩)]
      exact hL q hq
    have all : ∀ {L : List (Addr × (Int × Int))}, (∀ q ∈ L, G2 q.1 = some (.tup [.int q.2.1, .int q.2.2])) → DqAll G2 (L.map fun q => V.ref q.1) ((L.map (·.2)).map enc) := by
      intro L
      induction L with
      | nil => intro _; exact .nil
      | cons x L ih => intro h; exact .cons (.tup (h x List.mem_cons_self) (.cons (.int _) (.cons (.int _) .nil))) (ih fun q hq => h q (List.mem_cons_of_mem _ hq))
    have es : L.map (·.2) = Sw.srtP ps := by
      refine Sw.srtP_uniq pm ?_
      rw [List.pairwise_map]
      exact pw.imp fun {x y} z => (Sw.leP_iff _ _).mpr (by
        have z := SrtO.lexB_no.mp z
        omega)
    refine q p _ G2 _ (n2.trans (Nx.fresh n2.kn hp)) (n2.dom p hp) (n2.kn.none hp) upd_same ?_
    rw [← es]
    exact all hG
end
section
variable {α : Type} [Enc α]
def DkR (G : Hp) (vs : List (Key × V)) (ks : List (Int × α)) : Prop := Paired (fun p q => p.1 = .inl q.1 ∧ Dq G p.2 (enc q.2)) vs ks
def lk (ks : List (Int × α)) (i : Int) : Option α := (ks.find? fun p => decide (p.1 = i)).map (·.2)
theorem dk_ex {G G2 : Hp} {vs : List (Key × V)} {ks : List (Int × α)} (e : Ex G G2) (h : DkR G vs ks) : DkR G2 vs ks := Paired.mapP h fun _ _ z => ⟨z.1, dq_ex e z.2⟩
theorem dk_get {G : Hp} {i : Int} : ∀ {vs : List (Key × V)} {ks : List (Int × α)}, DkR G vs ks → (lk ks i = none ∧ valV vs (.inl i) = none) ∨ ∃ x v, lk ks i = some x ∧ valV vs (.inl i) = some v ∧ Dq G v (enc x)
  | _, _, .nil => .inl ⟨rfl, rfl⟩
  | _, _, .cons (a := p) (b := q) ⟨h1, h2⟩ t => by
    by_cases c : q.1 = i
    · refine .inr ⟨q.2, p.2, ?_, valV_pos (by rw [h1, c]), h2⟩
      unfold lk
      rw [List.find?_cons, decide_eq_true c]
      rfl
    · have n : ¬ p.1 = .inl i := fun z => c (by
        rw [h1] at z
        exact Sum.inl.inj z)
      have e : ∀ ks : List (Int × α), lk (q :: ks) i = lk ks i := fun ks => by
        unfold lk
        rw [List.find?_cons, decide_eq_false c]
      rw [valV_neg n, e]
      exact dk_get t
theorem dk_put {G : Hp} {i : Int} {x : α} {v : V} {vs : List (Key × V)} {ks : List (Int × α)} (h : DkR G vs ks) (hn : lk ks i = none) (hv : Dq G v (enc x)) : DkR G (putK vs (.inl i) v) (ks ++ [(i, x)]) := by
  have z : valV vs (.inl i) = none := by
    rcases dk_get (i := i) h with ⟨_, z⟩ | ⟨_, _, e, _⟩
    · exact z
    · rw [hn] at e
      cases e
  rw [putK_new v z]
  exact Paired.snoc h ⟨rfl, hv⟩
def IsDn (ks : List (Int × α)) : Rp := fun G v => ∃ a vs, v = .ref a ∧ G a = some (.dK vs) ∧ DkR G vs ks
theorem isDn_ex {ks : List (Int × α)} : Mono (IsDn ks) := ⟨fun e ⟨a, vs, h, g, r⟩ => ⟨a, vs, h, e _ _ g, dk_ex e r⟩⟩
instance {ks : List (Int × α)} : MonoC (IsDn ks) := ⟨isDn_ex⟩
def ODn (ks : List (Int × α)) : Ow where
  P := fun G _ o => ∃ vs, o = .dK vs ∧ DkR G vs ks
  R := IsDn ks
  mono := fun e ⟨vs, h, r⟩ => ⟨vs, h, dk_ex e r⟩
  soft := fun ⟨vs, h, _⟩ => by
    rw [h]
    trivial
  toR := fun e ⟨vs, h, r⟩ => by
    subst h
    exact ⟨_, vs, rfl, e, r⟩
  monoR := isDn_ex
end
section
variable {α : Type} [Enc α] {T : Tbs} {K : PySem.W.Frag} {σ : L2.St} {G0 H0 F G H : Hp} {Γ Γ' : List Sl} {i j : Nat} {te ta tb ty td tv : TE} {D : Ends} {ks : List (Int × α)} {k : Int} {x : α}
theorem Sat.ownN (s : Sat T G0 H0 F Γ σ G H) (hi : Γ[i]? = some (.ow (ODn ks))) : ∃ p vs, σ[i]? = some (some (.ref p)) ∧ G p = none ∧ H p = some (.dK vs) ∧ DkR G vs ks := by
  obtain ⟨p, o, e, z0, z1, z2, vs, rfl, r⟩ := s.ow i _ hi
  exact ⟨p, vs, e, z1, z2, r⟩
theorem ev_dinN (ha : Ev T ta σ G k) (hb : EvR T tb σ G (IsDn ks)) : Ev T (tDIn ta tb) σ G (lk ks k).isSome := fun H kn Q q =>
  ha H kn _ fun u G1 H1 n1 r1 => EvR.mono isDn_ex hb n1.ex H1 n1.kn _ fun v G2 H2 n2 r2 => by
    rw [dq_int r1]
    obtain ⟨a, vs, rfl, g, r⟩ := r2
    refine ⟨a, _, rfl, DGet.k (k := Sum.inl k) (n2.kn.le _ _ g), ?_⟩
    rcases dk_get (i := k) r with ⟨e1, e2⟩ | ⟨_, _, e1, e2, _⟩ <;> rw [e2] <;> rw [e1] at q <;> exact q _ G2 H2 (n1.trans n2) (.bl _)
theorem ev_dnotinN (ha : Ev T ta σ G k) (hb : EvR T tb σ G (IsDn ks)) : Ev T (tDNotIn ta tb) σ G (!(lk ks k).isSome) := fun H kn Q q =>
  ha H kn _ fun u G1 H1 n1 r1 => EvR.mono isDn_ex hb n1.ex H1 n1.kn _ fun v G2 H2 n2 r2 => by
    rw [dq_int r1]
    obtain ⟨a, vs, rfl, g, r⟩ := r2
    refine ⟨a, _, rfl, DGet.k (k := Sum.inl k) (n2.kn.le _ _ g), ?_⟩
    rcases dk_get (i := k) r with ⟨e1, e2⟩ | ⟨_, _, e1, e2, _⟩ <;> rw [e2] <;> rw [e1] at q <;> exact q _ G2 H2 (n1.trans n2) (.bl _)
theorem ev_dgetN (hb : EvR T tb σ G (IsDn ks)) (ha : Ev T ta σ G k) (h : lk ks k = some x) : Ev T (tDGet tb ta) σ G x := fun H kn Q q =>
  hb H kn _ fun v G1 H1 n1 r1 => EvR.mono isD_ex ha n1.ex H1 n1.kn _ fun u G2 H2 n2 r2 => by
    rw [dq_int r2]
    obtain ⟨a, vs, rfl, g, r⟩ := r1
    rcases dk_get (i := k) r with ⟨e1, _⟩ | ⟨y, w, e1, e2, e3⟩
    · rw [h] at e1
      cases e1
    · rw [h] at e1
      cases e1
      exact ⟨a, w, rfl, by rw [← e2]; exact DGet.k (k := Sum.inl k) (n2.kn.le _ _ (n2.ex _ _ g)), q _ G2 H2 (n1.trans n2) (dq_ex n2.ex e3)⟩
/-- d.get(k), d a dict to lists -/
theorem ev_dget1N {β : Type} [Enc β] {ks : List (Int × List β)} (hb : EvR T tb σ G (IsDn ks)) (ha : Ev T ta σ G k) : Ev T (tDGet1 tb ta) σ G (lk ks k) := fun H kn Q q =>
  hb H kn _ fun v G1 H1 n1 r1 => by
    obtain ⟨a, vs, rfl, g, r⟩ := r1
    refine ⟨a, rfl, .inl ⟨vs, .inl (n1.kn.le _ _ g)⟩, EvR.mono isD_ex ha n1.ex H1 n1.kn _ fun u G2 H2 n2 r2 => ?_⟩
    rw [dq_int r2]
    refine ⟨_, DGet.k (k := Sum.inl k) (n2.kn.le _ _ (n2.ex _ _ g)), ?_⟩
    rcases dk_get (i := k) r with ⟨e1, e2⟩ | ⟨y, w, e1, e2, e3⟩
    · rw [e2]
      rw [e1] at q
      exact q _ G2 H2 (n1.trans n2) .non
    · rw [e2]
      rw [e1] at q
      exact q _ G2 H2 (n1.trans n2) (dq_ex n2.ex e3)
theorem eo_dnewN : EvO' T tDNewK σ G (ODn ([] : List (Int × α))) := fun H kn Q q p hp => q p _ G _ (Nx.fresh kn hp) hp (kn.none hp) upd_same ⟨[], rfl, .nil⟩
theorem eo_disp1 (ha : Ev T ta σ G k) (hb : Ev T tb σ G x) : EvO' T (tDisp [(ta, tb)]) σ G (ODn [(k, x)]) := fun H kn Q q p hp => by
  have n0 := Nx.fresh (o := .dK []) kn hp
  refine ha _ n0.kn _ fun u G1 H1 n1 r1 => EvR.mono isD_ex hb n1.ex H1 n1.kn _ fun v G2 H2 n2 r2 => ?_
  obtain ⟨y1, y2⟩ := stays (n1.trans n2) (kn.none hp) (upd_same (H := H) (a := p) (o := .dK [])) nt_dK nu_dK
  have e1 := dq_int r1
  subst e1
  refine ⟨y2, [(.inl k, v)], rfl, by show 1 ≤ 15; decide, ?_⟩
  have nn := n0.trans (n1.trans n2)
  refine q p _ G2 _ (nn.mut hp y1 y2 True.intro) hp y1 upd_same ⟨_, rfl, ?_⟩
  exact dk_put (ks := []) (vs := []) .nil rfl r2
theorem st_dputN {x : α} (s : Sat T G0 H0 F Γ σ G H) (hi : Γ[i]? = some (.ow (ODn ks))) (hz : ks.length < 100000) (hn : lk ks k = none) (hv : ∀ {G}, SatI (Γ.map hd) σ G → Ev T tv σ G x) (hx : ∀ {G}, SatI (Γ.map hd) σ G → Ev T ty σ G k) (c : ∀ G H, Sat T G0 H0 F (Γ.set i (.ow (ODn (ks ++ [(k, x)])))) σ G H → D.nx σ H) : sDPut (tVar i) ty tv D σ H := by
  refine hv s.hdI H s.kn _ fun v G1 H1 n1 r1 => ?_
  have s1 := s.step n1
  obtain ⟨p, vs, e, z1, z2, r⟩ := s1.ownN hi
  refine ⟨.ref p, e, hx s1.hdI H1 s1.kn _ fun w G2 H2 n2 r2 => ?_⟩
  have s2 := s1.step n2
  obtain ⟨y1, y2⟩ := stays n2 z1 z2 nt_dK nu_dK
  rw [dq_int r2]
  have hl := Paired.length r
  exact ⟨p, _, rfl, DPut.k (k := Sum.inl k) (v := v) y2 (Nat.lt_of_lt_of_le (show vs.length < 100000 by omega) (by decide)), c _ _ (s2.mut hi e ⟨_, rfl, dk_put (dk_ex n2.ex r) hn (dq_ex n2.ex r1)⟩)⟩
end
end Ho

set_option linter.all false
namespace Sw
def tri : Nat → Nat
  | 0 => 0
  | n + 1 => n + tri n
theorem tri_mono : ∀ {a b : Nat}, a ≤ b → tri a ≤ tri b
  | 0, b, _ => Nat.zero_le _
  | a + 1, 0, h => absurd h (by omega)
  | a + 1, b + 1, h => by
    have := tri_mono (a := a) (b := b) (by omega)
    unfold tri
    omega
theorem tpRaw_tri : ∀ r : List Int, (tpRaw r).length ≤ tri r.length
  | [] => Nat.le_refl _
  | h :: t => by
    unfold tpRaw
    rw [List.length_append, List.length_map, List.length_cons]
    have a := List.length_filter_le (fun l => decide (l < h)) t
    have b := tpRaw_tri t
    unfold tri
    omega
theorem tp_66 {n : Nat} {r : List Int} (R : Row n r) (hn : n ≤ 12) : (tp r).length ≤ 66 := by
  have a : (tp r).length = (tpRaw r).length := (srtP_perm _).length_eq
  have b := tpRaw_tri r
  rw [R.len] at b
  have c := tri_mono hn
  have d : tri 12 = 66 := by decide
  omega
def notIn (ps qs : List (Int × Int)) : List (Int × Int) := ps.filter fun p => !decide (p ∈ qs)
theorem mem_notIn {ps qs : List (Int × Int)} {p : Int × Int} : p ∈ notIn ps qs ↔ p ∈ ps ∧ p ∉ qs := by
  unfold notIn
  rw [List.mem_filter]
  simp
def apt (r s : List Int) : List (Int × Int) := srtP (notIn (tp r) (tp s) ++ notIn (tp s) (tp r))
theorem mem_apt {r s : List Int} {p : Int × Int} : p ∈ apt r s ↔ (p ∈ tp s ∧ p ∉ tp r) ∨ (p ∈ tp r ∧ p ∉ tp s) := by
  unfold apt
  rw [(srtP_perm _).mem_iff, List.mem_append, mem_notIn, mem_notIn]
  exact Or.comm
theorem nodup_apt {n : Nat} {r s : List Int} (R : Row n r) (S : Row n s) : (apt r s).Nodup := by
  refine (srtP_perm _).nodup_iff.mpr (List.nodup_append.mpr ⟨(nodup_tp R.nodup).filter _, (nodup_tp S.nodup).filter _, fun x hx y hy e => ?_⟩)
  subst e
  exact (mem_notIn.mp hx).2 (mem_notIn.mp hy).1
theorem apt_rise {n : Nat} {r s : List Int} (R : Row n r) (S : Row n s) : (apt r s).Pairwise fun p q => p.1 < q.1 ∨ (p.1 = q.1 ∧ p.2 < q.2) := by
  have a : (apt r s).Pairwise fun p q => leP p q = true := srtP_pw _
  have b := nodup_apt R S
  refine (a.and b).imp fun {p q} h => ?_
  have c := (leP_iff p q).mp h.1
  have d : p ≠ q := h.2
  rcases c with c | ⟨c1, c2⟩
  · exact .inl c
  · refine .inr ⟨c1, ?_⟩
    have : p.2 ≠ q.2 := fun e => d (Prod.ext c1 e)
    omega
theorem apt_len {n : Nat} {r s : List Int} (R : Row n r) (S : Row n s) (hn : n ≤ 12) : (apt r s).length ≤ 132 := by
  have a : (apt r s).length = (notIn (tp r) (tp s) ++ notIn (tp s) (tp r)).length := (srtP_perm _).length_eq
  rw [List.length_append] at a
  have b := List.length_filter_le (fun p => !decide (p ∈ tp s)) (tp r)
  have c := List.length_filter_le (fun p => !decide (p ∈ tp r)) (tp s)
  have d := tp_66 R hn
  have e := tp_66 S hn
  unfold notIn at a
  omega
theorem bl_eqD {n : Nat} {r s : List Int} (R : Row n r) (S : Row n s) : bl r s = decide (notIn (tp r) (tp s) = []) := by
  unfold bl notIn
  by_cases c : (tp r).all (fun p => decide (p ∈ tp s)) = true
  · rw [c, decide_eq_true]
    refine List.filter_eq_nil_iff.mpr fun p hp => ?_
    have := List.all_eq_true.mp c p hp
    simp at this ⊢
    exact this
  · rw [decide_eq_false]
    · simpa using c
    · intro e
      refine c (List.all_eq_true.mpr fun p hp => ?_)
      have := List.filter_eq_nil_iff.mp e p hp
      simp at this ⊢
      exact this
end Sw

set_option linter.all false
namespace Sw
variable {n : Nat} {r s : List Int} {t ps : List (Int × Int)}
def stepF (m l : Int) (t : List (Int × Int)) (h : Int) : List (Int × Int) := if (m, h) ∈ t then putP t (l, h) else t
def passL (n : Nat) (t : List (Int × Int)) (p : Int × Int) : List (Int × Int) := (rngI (p.2 + 1) ((n : Int) + 1)).foldl (stepF p.2 p.1) t
def pass (n : Nat) (t : List (Int × Int)) : List (Int × Int) := t.foldl (passL n) t
def Grows {α β : Type} (f : List β → α → List β) : Prop := ∀ t x, ∃ e, f t x = t ++ e
theorem Grows.fold {α β : Type} {f : List β → α → List β} (g : Grows f) : ∀ (xs : List α) (t : List β), ∃ e, xs.foldl f t = t ++ e
  | [], t => ⟨[], (List.append_nil t).symm⟩
  | x :: xs, t => by
    obtain ⟨e1, h1⟩ := g t x
    obtain ⟨e2, h2⟩ := g.fold xs (f t x)
    exact ⟨e1 ++ e2, by rw [List.foldl_cons, h2, h1, List.append_assoc]⟩
theorem Grows.fix {α β : Type} {f : List β → α → List β} (g : Grows f) : ∀ (xs : List α) (t : List β), xs.foldl f t = t → ∀ x ∈ xs, f t x = t
  | [], t, _, x, hx => by cases hx
  | y :: ys, t, h, x, hx => by
    rw [List.foldl_cons] at h
    obtain ⟨e1, h1⟩ := g t y
    obtain ⟨e2, h2⟩ := g.fold ys (f t y)
    rw [h2, h1] at h
    have z := congrArg List.length h
    rw [List.length_append, List.length_append] at z
    have n1 : e1 = [] := List.eq_nil_of_length_eq_zero (by omega)
    have fy : f t y = t := by
      rw [h1, n1, List.append_nil]
    rcases List.mem_cons.mp hx with c | c
    · rw [c]
      exact fy
    · refine g.fix ys t ?_ x c
      rw [← fy]
      rw [h2, h1, n1, List.append_nil]
      have n2 : e2 = [] := List.eq_nil_of_length_eq_zero (by omega)
      rw [n2, List.append_nil]
theorem fold_inv {α β : Type} {f : β → α → β} {I : β → Prop} : ∀ (xs : List α) (t : β), (∀ t x, x ∈ xs → I t → I (f t x)) → I t → I (xs.foldl f t)
  | [], t, _, h => h
  | x :: xs, t, hs, h => fold_inv xs (f t x) (fun t y hy => hs t y (List.mem_cons_of_mem _ hy)) (hs t x List.mem_cons_self h)
theorem grows_putP (t : List (Int × Int)) (p : Int × Int) : ∃ e, putP t p = t ++ e := by
  unfold putP
  split
  · exact ⟨[], (List.append_nil t).symm⟩
  · exact ⟨[p], rfl⟩
theorem grows_stepF (m l : Int) : Grows (stepF m l) := fun t h => by
  unfold stepF
  split
  · exact grows_putP t _
  · exact ⟨[], (List.append_nil t).symm⟩
theorem grows_passL (n : Nat) : Grows (passL n) := fun t p => (grows_stepF p.2 p.1).fold _ t
def Closed (t : List (Int × Int)) : Prop := ∀ l m h, (l, m) ∈ t → (m, h) ∈ t → (l, h) ∈ t
theorem pass_closed (hb : InB n t) (h : pass n t = t) : Closed t := fun l m k h1 h2 => by
  have f1 := (grows_passL n).fix t t h (l, m) h1
  have b := hb _ _ h2
  have f2 := (grows_stepF m l).fix _ t f1 k (mem_rngI.mpr (by omega))
  unfold stepF at f2
  rw [if_pos h2] at f2
  rw [← f2]
  exact mem_putP.mpr (.inr rfl)
/-- between the pairs and their closure -/
structure Btw (n : Nat) (ps t : List (Int × Int)) : Prop where
  nd : t.Nodup
  sup : ∀ p ∈ ps, p ∈ t
  sub : ∀ p ∈ t, p ∈ closure n ps
theorem Btw.step {l m h : Int} (hb : InB n ps) (B : Btw n ps t) (hl : (l, m) ∈ closure n ps) : Btw n ps (stepF m l t h) := by
  unfold stepF
  split
  · rename_i c
    refine ⟨nodup_putP B.nd, fun p hp => mem_putP.mpr (.inl (B.sup p hp)), fun p hp => ?_⟩
    rcases mem_putP.mp hp with z | z
    · exact B.sub p z
    · rw [z]
      exact closure_tr hb hl (B.sub _ c)
  · exact B
theorem Btw.passL {p : Int × Int} (hb : InB n ps) (B : Btw n ps t) (hp : p ∈ closure n ps) : Btw n ps (passL n t p) := fold_inv (I := Btw n ps) _ t (fun t h _ B => B.step hb hp) B
theorem Btw.fold (hb : InB n ps) {ks : List (Int × Int)} (B : Btw n ps t) (hk : ∀ p ∈ ks, p ∈ closure n ps) : Btw n ps (ks.foldl (Sw.passL n) t) := fold_inv (I := Btw n ps) ks t (fun t p hp B => B.passL hb (hk p hp)) B
theorem Btw.inb (hb : InB n ps) (B : Btw n ps t) : InB n t := fun a b h => (upto_closure hb).inb a b (B.sub _ h)
theorem Btw.pass (hb : InB n ps) (B : Btw n ps t) : Btw n ps (pass n t) := B.fold hb B.sub
def gridP : List (Int × Int) := (rngI 1 13).flatMap fun a => (rngI 1 13).map fun b => (a, b)
theorem grid_len : gridP.length = 144 := by decide +kernel
theorem inb_len {t : List (Int × Int)} (hn : n ≤ 12) (nd : t.Nodup) (hb : InB n t) : t.length ≤ 144 := by
  rw [← grid_len]
  refine nodup_len nd fun p hp => ?_
  have b := hb p.1 p.2 hp
  exact List.mem_flatMap.mpr ⟨p.1, mem_rngI.mpr (by omega), List.mem_map.mpr ⟨p.2, mem_rngI.mpr (by omega), rfl⟩⟩
/-- nothing has come: all that follow are there -/
theorem Btw.done (hb : InB n ps) (B : Btw n ps t) (C : Closed t) (p : Int × Int) : p ∈ t ↔ p ∈ closure n ps :=
  ⟨B.sub p, fun h => (upto_closure hb).least (fun a b => (a, b) ∈ t) (fun a b c => C a b c) (fun a b h => B.sup _ h) p.1 p.2 h⟩
theorem srtP_same {ps qs : List (Int × Int)} (h1 : ps.Nodup) (h2 : qs.Nodup) (h : ∀ p, p ∈ ps ↔ p ∈ qs) : srtP ps = srtP qs :=
  srtP_uniq ((srtP_perm ps).trans (perm_of_mem h1 h2 h)) (srtP_pw ps)
theorem clo_nodup (h : ps.Nodup) : (closure n ps).Nodup := nodup_closure h
theorem clo_same {ps qs : List (Int × Int)} (h1 : InB n ps) (h2 : InB n qs) (h : ∀ p, p ∈ ps ↔ p ∈ qs) (p : Int × Int) : p ∈ closure n ps ↔ p ∈ closure n qs := by
  have U1 := upto_closure h1
  have U2 := upto_closure h2
  constructor
  · intro z
    exact U1.least (fun a b => (a, b) ∈ closure n qs) (fun a b c x y => closure_tr h2 x y) (fun a b x => U2.sup a b ((h _).mp x)) p.1 p.2 z
  · intro z
    exact U2.least (fun a b => (a, b) ∈ closure n ps) (fun a b c x y => closure_tr h1 x y) (fun a b x => U1.sup a b ((h _).mpr x)) p.1 p.2 z
/-- what is told -/
def fol (ps : List (Int × Int)) (n : Nat) : List (Int × Int) := srtP (closure n (putAll [] ps))
theorem mem_put0 {ps : List (Int × Int)} {p : Int × Int} : p ∈ putAll [] ps ↔ p ∈ ps := by
  rw [mem_putAll]
  simp
theorem inb_put0 {ps : List (Int × Int)} (h : InB n ps) : InB n (putAll [] ps) := fun a b z => h a b (mem_put0.mp z)
theorem mem_fol {ps : List (Int × Int)} {p : Int × Int} : p ∈ fol ps n ↔ p ∈ closure n (putAll [] ps) := (srtP_perm _).mem_iff
theorem btw0 (ps : List (Int × Int)) (h : InB n ps) : Btw n (putAll [] ps) (putAll [] ps) := ⟨nodup_putAll List.nodup_nil, fun p hp => hp, fun p hp => (upto_closure (inb_put0 h)).sup p.1 p.2 hp⟩
theorem fol_done {ps t : List (Int × Int)} (h : InB n ps) (B : Btw n (putAll [] ps) t) (C : Closed t) : srtP t = fol ps n :=
  srtP_same B.nd (clo_nodup (nodup_putAll List.nodup_nil)) (B.done (inb_put0 h) C)
theorem fol_len {ps : List (Int × Int)} (hn : n ≤ 12) (h : InB n ps) : (fol ps n).length ≤ 144 := by
  unfold fol
  rw [(srtP_perm _).length_eq]
  exact inb_len hn (clo_nodup (nodup_putAll List.nodup_nil)) (upto_closure (inb_put0 h)).inb
/-- all that follow from both rows' pairs: those of the join -/
theorem fol_join {ps : List (Int × Int)} (R : Row n r) (S : Row n s) (h : ∀ a b, (a, b) ∈ ps ↔ Inv r a b ∨ Inv s a b) : fol ps n = tp (jn r s) := by
  have hb : InB n ps := fun a b z => ((h a b).mp z).elim (fun y => y.bounds R) fun y => y.bounds S
  refine srtP_tp (jn_row R).nodup (clo_nodup (nodup_putAll List.nodup_nil)) fun a b => ?_
  rw [jn_inv R S]
  exact clo_same (inb_put0 hb) (inb_uni R S) (fun p => by rw [mem_put0, h p.1 p.2, mem_uni R S]) (a, b)
theorem made_join (R : Row n r) (S : Row n s) : madeC (tp (jn r s)) n = jn r s := made_of (jn_row R) (nodup_tp (jn_row R).nodup) fun a b => mem_tp (jn_row R).nodup a b
theorem srtP_of_tp (R : Row n r) : srtP (tp r) = tp r := srtP_tp R.nodup (nodup_tp R.nodup) fun a b => mem_tp R.nodup a b
theorem made_join_ok (R : Row n r) (S : Row n s) : tp (madeC (tp (jn r s)) n) = srtP (tp (jn r s)) := by
  rw [made_join R S, srtP_of_tp (jn_row R)]
/-- the pairs that don't follow from the straight ones: those of the meet -/
theorem low_inv (R : Row n r) (S : Row n s) {qs es : List (Int × Int)} (hq : ∀ a b, (a, b) ∈ qs ↔ (1 ≤ a ∧ a < b ∧ b ≤ (n : Int)) ∧ (¬ Inv r a b ∨ ¬ Inv s a b)) (he : ∀ a b, (a, b) ∈ es ↔ 1 ≤ a ∧ a < b ∧ b ≤ (n : Int)) (a b : Int) :
    (a, b) ∈ es.filter (fun p => !decide (p ∈ fol qs n)) ↔ Inv (mt r s) a b := by
  have RR := rev_row R
  have SR := rev_row S
  have e : fol qs n = tp (jn r.reverse s.reverse) := fol_join RR SR fun a b => by
    rw [hq, inv_rev R, inv_rev S]
    constructor
    · rintro ⟨x, y | y⟩
      · exact .inl ⟨x, y⟩
      · exact .inr ⟨x, y⟩
    · rintro (⟨x, y⟩ | ⟨x, y⟩)
      · exact ⟨x, .inl y⟩
      · exact ⟨x, .inr y⟩
  rw [List.mem_filter, he, e]
  unfold mt
  rw [inv_rev (jn_row RR)]
  have z := mem_tp (jn_row (s := s.reverse) RR).nodup a b
  simp only [Bool.not_eq_true', decide_eq_false_iff_not]
  rw [z]
theorem made_low (R : Row n r) (S : Row n s) {ls : List (Int × Int)} (nd : ls.Nodup) (h : ∀ a b, (a, b) ∈ ls ↔ Inv (mt r s) a b) : tp (madeC ls n) = srtP ls ∧ madeC ls n = mt r s := by
  have M := mt_row (s := s) R
  have e := made_of M nd h
  refine ⟨?_, e⟩
  rw [e]
  exact (srtP_tp M.nodup nd h).symm
end Sw

set_option linter.all false
namespace Sw
open Ho (lk)
variable {S : List (Int × Int)} {a b c last : Int} {l l' : List Int} {k : Nat}
/-- a list that goes by steps from a to b -/
inductive Pth (S : List (Int × Int)) (b : Int) : List Int → Int → Prop
  | one : Pth S b [b] b
  | cons {a c : Int} {l : List Int} : (a, c) ∈ S → Pth S b l c → Pth S b (a :: l) a
/-- of two lists as long the lesser one, or the same -/
inductive LL : List Int → List Int → Prop
  | nil : LL [] []
  | lt {a b : Int} {l m : List Int} : a < b → l.length = m.length → LL (a :: l) (b :: m)
  | eq {a : Int} {l m : List Int} : LL l m → LL (a :: l) (a :: m)
theorem LL.refl : ∀ l : List Int, LL l l
  | [] => .nil
  | _ :: l => .eq (LL.refl l)
theorem LL.len {l m : List Int} (h : LL l m) : l.length = m.length := by
  induction h with
  | nil => rfl
  | lt _ e => rw [List.length_cons, List.length_cons, e]
  | eq _ ih => rw [List.length_cons, List.length_cons, ih]
theorem LL.anti {l m : List Int} (h : LL l m) : LL m l → l = m := by
  induction h with
  | nil => intro _; rfl
  | lt h _ =>
    intro g
    cases g with
    | lt g _ => omega
    | eq g => omega
  | eq h ih =>
    intro g
    cases g with
    | lt g _ => omega
    | eq g => rw [ih g]
theorem LL.trans {l m n : List Int} (h : LL l m) : LL m n → LL l n := by
  induction h generalizing n with
  | nil => intro g; exact g
  | lt h e =>
    intro g
    cases g with
    | lt g e2 => exact .lt (by omega) (by omega)
    | eq g => exact .lt h (e.trans g.len)
  | eq h ih =>
    intro g
    cases g with
    | lt g e => exact .lt g (h.len.trans e)
    | eq g => exact .eq (ih g)
theorem LL.snoc_ne {l m : List Int} (h : LL l m) (x y : Int) : l ≠ m → LL (l ++ [x]) (m ++ [y]) := by
  induction h with
  | nil => intro z; exact absurd rfl z
  | @lt a b l m h e => intro _; exact .lt h (by show (l ++ [x]).length = (m ++ [y]).length; rw [List.length_append, List.length_append, e]; rfl)
  | eq h ih => intro z; exact .eq (ih fun q => z (by rw [q]))
theorem LL.snoc_le (l : List Int) {x y : Int} (h : x < y) : LL (l ++ [x]) (l ++ [y]) := by
  induction l with
  | nil => exact .lt h rfl
  | cons a l ih => exact .eq ih
theorem LL.snoc {l m : List Int} (h : LL l m) (x : Int) : LL (l ++ [x]) (m ++ [x]) := by
  by_cases e : l = m
  · rw [e]
    exact LL.refl _
  · exact h.snoc_ne x x e
theorem Pth.ne (h : Pth S b l a) : ∃ t, l = a :: t := by
  cases h with
  | one => exact ⟨[], rfl⟩
  | cons _ _ => exact ⟨_, rfl⟩
theorem Pth.snoc (h : Pth S b l a) (hs : (b, c) ∈ S) : Pth S c (l ++ [c]) a := by
  induction h with
  | one => exact .cons hs .one
  | cons h1 _ ih => exact .cons h1 ih
theorem Pth.end_ (h : Pth S b l a) : l.getLast? = some b := by
  induction h with
  | one => rfl
  | @cons a c l h1 h2 ih =>
    obtain ⟨t, e⟩ := h2.ne
    rw [e] at ih ⊢
    rw [List.getLast?_cons_cons]
    exact ih
theorem Pth.split : ∀ {l : List Int} {a : Int}, Pth S b l a → 2 ≤ l.length → ∃ l1 u, l = l1 ++ [b] ∧ Pth S u l1 a ∧ (u, b) ∈ S
  | _, _, .one, h => by
    have h : 2 ≤ 1 := h
    omega
  | _, _, .cons (a := a) (c := c) (l := l) h1 h2, _ => by
    by_cases e : 2 ≤ l.length
    · obtain ⟨l1, u, e1, p1, s1⟩ := h2.split e
      exact ⟨a :: l1, u, by rw [e1]; rfl, .cons h1 p1, s1⟩
    · cases h2 with
      | one => exact ⟨[a], a, rfl, .one, h1⟩
      | cons _ g =>
        obtain ⟨t, e2⟩ := g.ne
        rw [e2] at e
        exact absurd (by rw [List.length_cons, List.length_cons]; omega) e
/-- the front of a list -/
theorem Pth.front {k : Nat} : ∀ {l : List Int} {a b : Int}, Pth S b l a → k + 1 ≤ l.length → (∀ p ∈ S, p.1 < p.2) → ∃ l1 u, Pth S u l1 a ∧ l1.length = k + 1 ∧ u ≤ b := by
  intro l a b h hk hs
  generalize hm : l.length = m at hk
  induction m generalizing l b with
  | zero => omega
  | succ m ih =>
    by_cases e : k = m
    · exact ⟨l, b, h, by omega, Int.le_refl _⟩
    · obtain ⟨l1, u, e1, p1, s1⟩ := h.split (by omega)
      have el : l1.length = m := by
        rw [e1, List.length_append] at hm
        have : l1.length + 1 = m + 1 := hm
        omega
      obtain ⟨l2, v, p2, e2, hv⟩ := ih p1 el (by omega)
      have := hs _ s1
      exact ⟨l2, v, p2, e2, by
        have : u < b := this
        omega⟩
theorem Pth.bound (hs : ∀ p ∈ S, p.1 < p.2) (h : Pth S b l a) : a + (l.length : Int) ≤ b + 1 := by
  induction h with
  | one => show b + 1 ≤ b + 1; omega
  | @cons a c l h1 _ ih =>
    have z : a < c := hs _ h1
    rw [List.length_cons]
    omega
def Best (S : List (Int × Int)) (b : Int) (l : List Int) (a : Int) : Prop := Pth S b l a ∧ ∀ m, Pth S b m a → l.length < m.length ∨ LL l m
theorem Best.uniq (h : Best S b l a) (g : Best S b l' a) : l = l' := by
  rcases h.2 _ g.1 with x | x
  · rcases g.2 _ h.1 with y | y
    · omega
    · have := y.len
      omega
  · rcases g.2 _ h.1 with y | y
    · have := x.len
      omega
    · exact x.anti y
def fsh (xss : List (List Int)) : List Int := (xss.find? fun x => xss.all fun y => decide (x.length ≤ y.length)).getD []
theorem fsh_of {xss : List (List Int)} {i : Nat} {x : List Int} (hx : xss[i]? = some x) (h : ∀ (j : Nat) (y : List Int), xss[j]? = some y → x.length ≤ y.length ∧ (j < i → x.length < y.length)) : x = fsh xss := by
  unfold fsh
  have e : (xss.find? fun x => xss.all fun y => decide (x.length ≤ y.length)) = some x := by
    obtain ⟨hi, ei⟩ := List.getElem?_eq_some_iff.mp hx
    rw [List.find?_eq_some_iff_getElem]
    refine ⟨List.all_eq_true.mpr fun y hy => ?_, i, hi, ei, fun j hj => ?_⟩
    · obtain ⟨j, hj⟩ := List.getElem?_of_mem hy
      exact decide_eq_true (h j y hj).1
    · have hjl : j < xss.length := by omega
      have z := (h j _ (List.getElem?_eq_getElem hjl)).2 hj
      rw [Bool.not_eq_true', Bool.eq_false_iff]
      intro c
      have c2 := of_decide_eq_true (List.all_eq_true.mp c x (List.mem_of_getElem? hx))
      omega
  rw [e]
  rfl
theorem fsh_ex {xss : List (List Int)} (h : xss ≠ []) : ∃ i, xss[i]? = some (fsh xss) ∧ ∀ (j : Nat) (y : List Int), xss[j]? = some y → (fsh xss).length ≤ y.length ∧ (j < i → (fsh xss).length < y.length) := by
  have key : ∀ xss : List (List Int), xss ≠ [] → ∃ i x, xss[i]? = some x ∧ ∀ (j : Nat) (y : List Int), xss[j]? = some y → x.length ≤ y.length ∧ (j < i → x.length < y.length) := by
    intro xss
    induction xss with
    | nil => intro z; exact absurd rfl z
    | cons z zs ih =>
      intro _
      by_cases hz : zs = []
      · subst hz
        refine ⟨0, z, rfl, fun j y hy => ?_⟩
        cases j with
        | zero =>
          have e : z = y := Option.some.inj hy
          subst e
          exact ⟨Nat.le_refl _, fun q => absurd q (Nat.lt_irrefl 0)⟩
        | succ j => simp at hy
      · obtain ⟨i, x, hx, h⟩ := ih hz
        by_cases c : z.length ≤ x.length
        · refine ⟨0, z, rfl, fun j y hy => ⟨?_, fun q => absurd q (Nat.not_lt_zero j)⟩⟩
          cases j with
          | zero =>
            have e : z = y := Option.some.inj hy
            rw [e]
            exact Nat.le_refl _
          | succ j => exact Nat.le_trans c (h j y hy).1
        · refine ⟨i + 1, x, hx, fun j y hy => ?_⟩
          cases j with
          | zero =>
            have e : z = y := Option.some.inj hy
            subst e
            exact ⟨by omega, fun _ => by omega⟩
          | succ j =>
            obtain ⟨h1, h2⟩ := h j y hy
            exact ⟨h1, fun q => h2 (by omega)⟩
  obtain ⟨i, x, hx, hh⟩ := key xss h
  have e := fsh_of hx hh
  rw [← e]
  exact ⟨i, hx, hh⟩
def nexts (S : List (Int × Int)) (ks : List (Int × List Int)) (low last : Int) : List Int := (rngI (low + 1) (last + 1)).filter fun h => decide ((low, h) ∈ S) && (lk ks h).isSome
def rzStep (S : List (Int × Int)) (last low : Int) (ks : List (Int × List Int)) : List (Int × List Int) :=
  if nexts S ks low last = [] then ks else ks ++ [(low, low :: fsh ((nexts S ks low last).map fun h => (lk ks h).getD []))]
def rz (S : List (Int × Int)) (last : Int) : Nat → List (Int × List Int)
  | 0 => [(last, [last])]
  | k + 1 => rzStep S last (last - ((k : Int) + 1)) (rz S last k)
def rise (S : List (Int × Int)) (first last : Int) : Option (List Int) := lk (rz S last (last - first).toNat) first
theorem lk_app {α : Type} (ks : List (Int × α)) (i : Int) (x : α) (j : Int) : lk (ks ++ [(i, x)]) j = match lk ks j with
    | some y => some y
    | none => if i = j then some x else none := by
  unfold lk
  rw [List.find?_append]
  cases e : ks.find? (fun p => decide (p.1 = j)) with
  | some p => rfl
  | none =>
    show (List.find? (fun p : Int × α => decide (p.1 = j)) [(i, x)]).map (fun p => p.2) = if i = j then some x else none
    by_cases c : i = j
    · rw [if_pos c, List.find?_cons, decide_eq_true c]
      rfl
    · rw [if_neg c, List.find?_cons, decide_eq_false c]
      rfl
structure RzOk (S : List (Int × Int)) (last : Int) (k : Nat) (ks : List (Int × List Int)) : Prop where
  inn : ∀ v, last - (k : Int) ≤ v → v ≤ last → (lk ks v = none ∧ ∀ l, ¬ Pth S last l v) ∨ ∃ l, lk ks v = some l ∧ Best S last l v
  out : ∀ v, v < last - (k : Int) ∨ last < v → lk ks v = none
  len : ks.length ≤ k + 1
theorem rz_ok (hs : ∀ p ∈ S, p.1 < p.2) (last : Int) : ∀ k, RzOk S last k (rz S last k)
  | 0 => by
    have own : ∀ l, Pth S last l last → l = [last] := fun l h => by
      have b := h.bound hs
      cases h with
      | one => rfl
      | cons h1 h2 =>
        obtain ⟨t, e⟩ := h2.ne
        rw [e, List.length_cons, List.length_cons] at b
        omega
    refine ⟨fun v h1 h2 => ?_, fun v h => ?_, Nat.le_refl _⟩
    · have e : v = last := by omega
      subst e
      refine .inr ⟨[v], ?_, .one, fun m hm => ?_⟩
      · unfold rz lk
        rw [List.find?_cons, decide_eq_true rfl]
        rfl
      · rw [own m hm]
        exact .inr (LL.refl _)
    · unfold rz lk
      rw [List.find?_cons, decide_eq_false (by show ¬ last = v; omega)]
      rfl
  | k + 1 => by
    have ih := rz_ok hs last k
    have low_none : lk (rz S last k) (last - ((k : Int) + 1)) = none := ih.out _ (.inl (by omega))
    have mem_next : ∀ h, h ∈ nexts S (rz S last k) (last - ((k : Int) + 1)) last ↔ (last - ((k : Int) + 1) < h ∧ h ≤ last) ∧ (last - ((k : Int) + 1), h) ∈ S ∧ (lk (rz S last k) h).isSome = true := fun h => by
      unfold nexts
      rw [List.mem_filter, mem_rngI, Bool.and_eq_true, decide_eq_true_iff]
      constructor
      · rintro ⟨⟨x, y⟩, z⟩
        exact ⟨⟨by omega, by omega⟩, z⟩
      · rintro ⟨⟨x, y⟩, z⟩
        exact ⟨⟨by omega, by omega⟩, z⟩
    have conv : rz S last (k + 1) = rzStep S last (last - ((k : Int) + 1)) (rz S last k) := rfl
    rw [conv]
    unfold rzStep
    -- a path from low goes over one of the nexts
    have over : ∀ m, Pth S last m (last - ((k : Int) + 1)) → ∃ h t, m = (last - ((k : Int) + 1)) :: t ∧ h ∈ nexts S (rz S last k) (last - ((k : Int) + 1)) last ∧ Pth S last t h := fun m hm => by
      generalize el : last - ((k : Int) + 1) = low at hm
      cases hm with
      | one => omega
      | @cons _ h t h1 h2 =>
        have b := h2.bound hs
        obtain ⟨t', et⟩ := h2.ne
        rw [et, List.length_cons] at b
        have z : low < h := hs _ h1
        rw [← el]
        refine ⟨h, t, rfl, (mem_next h).mpr ⟨⟨by omega, by omega⟩, by rw [el]; exact h1, ?_⟩, h2⟩
        rcases ih.inn h (by omega) (by omega) with ⟨_, q⟩ | ⟨l, q, _⟩
        · exact absurd h2 (q t)
        · rw [q]
          rfl
    by_cases ne : nexts S (rz S last k) (last - ((k : Int) + 1)) last = []
    · rw [if_pos ne]
      refine ⟨fun v h1 h2 => ?_, fun v h => ?_, Nat.le_succ_of_le ih.len⟩
      · by_cases e : v = last - ((k : Int) + 1)
        · subst e
          refine .inl ⟨low_none, fun m hm => ?_⟩
          obtain ⟨h, t, _, q, _⟩ := over m hm
          rw [ne] at q
          cases q
        · exact ih.inn v (by omega) h2
      · refine ih.out v ?_
        rcases h with h | h
        · exact .inl (by omega)
        · exact .inr h
    · rw [if_neg ne]
      refine ⟨fun v h1 h2 => ?_, fun v h => ?_, by rw [List.length_append]; exact Nat.succ_le_succ ih.len⟩
      · rw [lk_app]
        by_cases e : v = last - ((k : Int) + 1)
        · subst e
          rw [low_none]
          dsimp only
          rw [if_pos rfl]
          refine .inr ⟨_, rfl, ?_⟩
          obtain ⟨i, hi, hb⟩ := fsh_ex (xss := (nexts S (rz S last k) (last - ((k : Int) + 1)) last).map fun h => (lk (rz S last k) h).getD []) (by simpa using ne)
          rw [List.getElem?_map] at hi
          cases eh : (nexts S (rz S last k) (last - ((k : Int) + 1)) last)[i]? with
          | none => rw [eh] at hi; cases hi
          | some h =>
            rw [eh] at hi
            have hi := Option.some.inj hi
            obtain ⟨⟨b1, b2⟩, hS, hsome⟩ := (mem_next h).mp (List.mem_of_getElem? eh)
            rcases ih.inn h (by omega) b2 with ⟨q, _⟩ | ⟨l, q, B⟩
            · rw [q] at hsome
              cases hsome
            · have hl : (lk (rz S last k) h).getD [] = l := by rw [q]; rfl
              have hi : l = fsh ((nexts S (rz S last k) (last - ((k : Int) + 1)) last).map fun h => (lk (rz S last k) h).getD []) := hl.symm.trans hi
              rw [← hi] at hb ⊢
              refine ⟨.cons hS B.1, fun m hm => ?_⟩
              obtain ⟨h', t, rfl, hn', ht⟩ := over m hm
              obtain ⟨⟨c1, c2⟩, _, _⟩ := (mem_next h').mp hn'
              rcases ih.inn h' (by omega) c2 with ⟨_, q'⟩ | ⟨l2, q', B'⟩
              · exact absurd ht (q' t)
              · obtain ⟨j, hj⟩ := List.getElem?_of_mem hn'
                have hj2 : ((nexts S (rz S last k) (last - ((k : Int) + 1)) last).map fun h => (lk (rz S last k) h).getD [])[j]? = some l2 := by
                  rw [List.getElem?_map, hj]
                  show some ((lk (rz S last k) h').getD []) = some l2
                  rw [q']
                  rfl
                obtain ⟨d1, d2⟩ := hb j l2 hj2
                rw [List.length_cons, List.length_cons]
                rcases B'.2 t ht with x | x
                · exact .inl (by omega)
                · have xl := x.len
                  by_cases el : l.length < t.length
                  · exact .inl (by omega)
                  · refine .inr (.eq ?_)
                    -- as long: the first of them is the lowest
                    by_cases ij : j < i
                    · have := d2 ij
                      omega
                    · by_cases eij : i = j
                      · subst eij
                        rw [eh] at hj
                        have := Option.some.inj hj
                        subst this
                        rw [q] at q'
                        have := Option.some.inj q'
                        rw [this]
                        exact x
                      · have lt : h < h' := by
                          have pw : (nexts S (rz S last k) (last - ((k : Int) + 1)) last).Pairwise fun x y => x < y := by
                            unfold nexts rngI
                            refine List.Pairwise.filter _ ?_
                            rw [List.pairwise_map]
                            exact List.pairwise_lt_range.imp fun h => by omega
                          have hil := (List.getElem?_eq_some_iff.mp eh)
                          have hjl := (List.getElem?_eq_some_iff.mp hj)
                          have z := List.pairwise_iff_getElem.mp pw i j hil.1 hjl.1 (by omega)
                          rw [hil.2, hjl.2] at z
                          exact z
                        obtain ⟨u1, e1⟩ := B.1.ne
                        obtain ⟨u2, e2⟩ := ht.ne
                        rw [e1, e2]
                        refine .lt lt ?_
                        rw [e1, e2] at el
                        have z2 := xl
                        rw [e2] at z2
                        rw [e1] at d1
                        rw [List.length_cons] at d1 z2
                        rw [List.length_cons, List.length_cons] at el
                        omega
        · rcases ih.inn v (by omega) h2 with ⟨q, w⟩ | ⟨l, q, B⟩
          · rw [q]
            dsimp only
            rw [if_neg (fun z => e z.symm)]
            exact .inl ⟨rfl, w⟩
          · rw [q]
            exact .inr ⟨l, rfl, B⟩
      · rw [lk_app, ih.out v (by omega)]
        dsimp only
        rw [if_neg (by omega)]
theorem rise_some (hs : ∀ p ∈ S, p.1 < p.2) {first : Int} (h : first ≤ last) (B : Best S last l first) : rise S first last = some l := by
  have K := rz_ok hs last (last - first).toNat
  rcases K.inn first (by omega) h with ⟨_, q⟩ | ⟨m, q, B'⟩
  · exact absurd B.1 (q l)
  · unfold rise
    rw [q, B'.uniq B]
theorem rise_none (hs : ∀ p ∈ S, p.1 < p.2) {first : Int} (h : first ≤ last) (B : ∀ l, ¬ Pth S last l first) : rise S first last = none := by
  have K := rz_ok hs last (last - first).toNat
  rcases K.inn first (by omega) h with ⟨q, _⟩ | ⟨m, q, B'⟩
  · exact q
  · exact absurd B'.1 (B m)
theorem rise_best (hs : ∀ p ∈ S, p.1 < p.2) {first : Int} (h : first ≤ last) (e : rise S first last = some l) : Best S last l first := by
  have K := rz_ok hs last (last - first).toNat
  rcases K.inn first (by omega) h with ⟨q, _⟩ | ⟨m, q, B'⟩
  · unfold rise at e
    rw [q] at e
    cases e
  · unfold rise at e
    rw [q] at e
    have := Option.some.inj e
    rw [← this]
    exact B'
def lst (r : List Int) : Int := r.getLast?.getD 0
theorem Pth.lst (h : Pth S b l a) : Sw.lst l = b := by
  unfold Sw.lst
  rw [h.end_]
  rfl
def ext1 (S : List (Int × Int)) (last : Int) (r : List Int) : List (List Int) := (S.filter fun p => decide (p.1 = lst r) && decide (p.2 ≤ last)).map fun p => r ++ [p.2]
def longer (S : List (Int × Int)) (last : Int) (rows : List (List Int)) : List (List Int) := rows.flatMap (ext1 S last)
def ddS (st : List Int × List (List Int)) (r : List Int) : List Int × List (List Int) := if lst r ∈ st.1 then st else (st.1 ++ [lst r], st.2 ++ [r])
def nxt (S : List (Int × Int)) (last : Int) (rows : List (List Int)) : List (List Int) := ((longer S last rows).foldl ddS ([], [])).2
structure Lvl (S : List (Int × Int)) (a last : Int) (k : Nat) (rows : List (List Int)) : Prop where
  pth : ∀ r ∈ rows, Pth S (lst r) r a ∧ lst r ≤ last ∧ r.length = k + 1
  srt : rows.Pairwise fun x y => LL x y ∧ x ≠ y
  one : rows.Pairwise fun x y => lst x ≠ lst y
  all : ∀ v m, v ≤ last → Pth S v m a → m.length = k + 1 → ∃ r ∈ rows, lst r = v ∧ LL r m
theorem lvl0 (h : a ≤ last) : Lvl S a last 0 [[a]] where
  pth := fun r hr => by
    rw [List.mem_singleton.mp hr]
    exact ⟨.one, h, rfl⟩
  srt := List.pairwise_singleton _ _
  one := List.pairwise_singleton _ _
  all := fun v m hv hm hl => by
    cases hm with
    | one => exact ⟨[a], List.mem_singleton.mpr rfl, rfl, LL.refl _⟩
    | cons h1 h2 =>
      obtain ⟨t, e⟩ := h2.ne
      rw [e, List.length_cons, List.length_cons] at hl
      omega
theorem ddS_fold : ∀ {xs : List (List Int)}, (xs.Pairwise fun x y => LL x y ∧ x ≠ y) →
    (xs.foldl ddS ([], [])).1 = (xs.foldl ddS ([], [])).2.map lst ∧ (xs.foldl ddS ([], [])).2.Sublist xs ∧ ((xs.foldl ddS ([], [])).2.Pairwise fun x y => lst x ≠ lst y) ∧ ∀ x ∈ xs, ∃ y ∈ (xs.foldl ddS ([], [])).2, lst y = lst x ∧ LL y x := by
  intro xs
  generalize hn : xs.length = n
  induction n generalizing xs with
  | zero =>
    intro _
    have e := List.eq_nil_of_length_eq_zero hn
    subst e
    exact ⟨rfl, List.Sublist.refl _, .nil, fun x hx => by cases hx⟩
  | succ n ih =>
    intro pw
    rcases List.eq_nil_or_concat xs with e | ⟨ys, z, e⟩
    · subst e
      cases hn
    · have e : xs = ys ++ [z] := by simpa using e
      subst e
      have hy : ys.length = n := by
        rw [List.length_append] at hn
        have : ys.length + 1 = n + 1 := hn
        omega
      obtain ⟨pw1, _, pw3⟩ := List.pairwise_append.mp pw
      obtain ⟨i1, i2, i3, i4⟩ := ih hy pw1
      rw [List.foldl_append]
      generalize ys.foldl ddS ([], []) = st at i1 i2 i3 i4
      show (ddS st z).1 = (ddS st z).2.map lst ∧ (ddS st z).2.Sublist (ys ++ [z]) ∧ ((ddS st z).2.Pairwise fun x y => lst x ≠ lst y) ∧ ∀ x ∈ ys ++ [z], ∃ y ∈ (ddS st z).2, lst y = lst x ∧ LL y x
      unfold ddS
      by_cases c : lst z ∈ st.1
      · rw [if_pos c]
        refine ⟨i1, i2.trans (List.sublist_append_left _ _), i3, fun x hx => ?_⟩
        rcases List.mem_append.mp hx with h | h
        · exact i4 x h
        · rw [List.mem_singleton.mp h]
          rw [i1] at c
          obtain ⟨y, hy, e⟩ := List.mem_map.mp c
          exact ⟨y, hy, e, (pw3 y (i2.subset hy) z (List.mem_singleton.mpr rfl)).1⟩
      · rw [if_neg c]
        refine ⟨by rw [List.map_append, ← i1]; rfl, List.Sublist.append i2 (List.Sublist.refl _), ?_, fun x hx => ?_⟩
        · refine List.pairwise_append.mpr ⟨i3, List.pairwise_singleton _ _, fun x hx y hy e => c ?_⟩
          rw [List.mem_singleton.mp hy] at e
          rw [i1, ← e]
          exact List.mem_map.mpr ⟨x, hx, rfl⟩
        · rcases List.mem_append.mp hx with h | h
          · obtain ⟨y, hy, e⟩ := i4 x h
            exact ⟨y, List.mem_append_left _ hy, e⟩
          · rw [List.mem_singleton.mp h]
            exact ⟨z, List.mem_append_right _ (List.mem_singleton.mpr rfl), rfl, LL.refl _⟩
/-- the pairs rise -/
def Rising (S : List (Int × Int)) : Prop := S.Pairwise fun p q => p.1 < q.1 ∨ (p.1 = q.1 ∧ p.2 < q.2)
theorem lst_snoc (r : List Int) (x : Int) : lst (r ++ [x]) = x := by
  unfold lst
  rw [List.getLast?_append]
  rfl
theorem longer_ok (hr : Rising S) (hs : ∀ p ∈ S, p.1 < p.2) {rows : List (List Int)} (L : Lvl S a last k rows) :
    ((longer S last rows).Pairwise fun x y => LL x y ∧ x ≠ y) ∧ (∀ r ∈ longer S last rows, Pth S (lst r) r a ∧ lst r ≤ last ∧ r.length = k + 2) ∧ ∀ v m, v ≤ last → Pth S v m a → m.length = k + 2 → ∃ r ∈ longer S last rows, lst r = v ∧ LL r m := by
  have mem : ∀ x, x ∈ longer S last rows ↔ ∃ r ∈ rows, ∃ p ∈ S, (p.1 = lst r ∧ p.2 ≤ last) ∧ x = r ++ [p.2] := fun x => by
    unfold longer ext1
    rw [List.mem_flatMap]
    constructor
    · rintro ⟨r, hr, hx⟩
      obtain ⟨p, hp, e⟩ := List.mem_map.mp hx
      obtain ⟨h1, h2⟩ := List.mem_filter.mp hp
      rw [Bool.and_eq_true, decide_eq_true_iff, decide_eq_true_iff] at h2
      exact ⟨r, hr, p, h1, h2, e.symm⟩
    · rintro ⟨r, hr, p, h1, h2, e⟩
      refine ⟨r, hr, List.mem_map.mpr ⟨p, List.mem_filter.mpr ⟨h1, ?_⟩, e.symm⟩⟩
      rw [Bool.and_eq_true, decide_eq_true_iff, decide_eq_true_iff]
      exact h2
  refine ⟨?_, fun x hx => ?_, fun v m hv hm hl => ?_⟩
  · have key : ∀ rs : List (List Int), (∀ r ∈ rs, r ∈ rows) → (rs.Pairwise fun x y => LL x y ∧ x ≠ y) → (rs.flatMap (ext1 S last)).Pairwise fun x y => LL x y ∧ x ≠ y := by
      intro rs
      induction rs with
      | nil => intro _ _; exact .nil
      | cons r rs ih =>
        intro hin pw
        obtain ⟨p1, p2⟩ := List.pairwise_cons.mp pw
        rw [List.flatMap_cons]
        refine List.pairwise_append.mpr ⟨?_, ih (fun x hx => hin x (List.mem_cons_of_mem _ hx)) p2, fun x hx y hy => ?_⟩
        · unfold ext1
          rw [List.pairwise_map]
          refine List.Pairwise.imp_of_mem (fun {p q} hp hq h => ?_) (List.Pairwise.filter _ hr)
          have h1 := (List.mem_filter.mp hp).2
          have h2 := (List.mem_filter.mp hq).2
          rw [Bool.and_eq_true, decide_eq_true_iff, decide_eq_true_iff] at h1 h2
          have z : p.2 < q.2 := by omega
          refine ⟨LL.snoc_le r z, fun e => ?_⟩
          have := List.append_cancel_left e
          injection this with e1 _
          omega
        · obtain ⟨r2, hr2, hy⟩ := List.mem_flatMap.mp hy
          obtain ⟨ll, ne⟩ := p1 r2 hr2
          unfold ext1 at hx hy
          obtain ⟨p, _, e1⟩ := List.mem_map.mp hx
          obtain ⟨q, _, e2⟩ := List.mem_map.mp hy
          rw [← e1, ← e2]
          refine ⟨ll.snoc_ne _ _ ne, fun e => ne ?_⟩
          exact List.append_inj_left' e rfl
    exact key rows (fun r h => h) L.srt
  · obtain ⟨r, hr, p, hp, ⟨e1, e2⟩, rfl⟩ := (mem x).mp hx
    obtain ⟨q1, q2, q3⟩ := L.pth r hr
    rw [lst_snoc]
    refine ⟨q1.snoc (by rw [← e1]; exact hp), e2, by rw [List.length_append, q3]; rfl⟩
  · obtain ⟨l1, u, rfl, p1, s1⟩ := hm.split (by omega)
    have z : u < v := hs _ s1
    have hl1 : l1.length = k + 1 := by
      rw [List.length_append] at hl
      have : l1.length + 1 = k + 2 := hl
      omega
    obtain ⟨r, hr, e, ll⟩ := L.all u l1 (by omega) p1 hl1
    exact ⟨r ++ [v], (mem _).mpr ⟨r, hr, (u, v), s1, ⟨e.symm, hv⟩, rfl⟩, lst_snoc _ _, ll.snoc v⟩
theorem lvl_next (hr : Rising S) (hs : ∀ p ∈ S, p.1 < p.2) {rows : List (List Int)} (L : Lvl S a last k rows) : Lvl S a last (k + 1) (nxt S last rows) := by
  obtain ⟨o1, o2, o3⟩ := longer_ok hr hs L
  obtain ⟨f1, f2, f3, f4⟩ := ddS_fold o1
  refine ⟨fun r h => o2 r (f2.subset h), o1.sublist f2, f3, fun v m hv hm hl => ?_⟩
  obtain ⟨x, hx, e, ll⟩ := o3 v m hv hm hl
  obtain ⟨y, hy, e2, ll2⟩ := f4 x hx
  exact ⟨y, hy, e2.trans e, ll2.trans ll⟩
/-- the row that ends at the last number is the best one, where none ended there before -/
theorem lvl_best (hs : ∀ p ∈ S, p.1 < p.2) {rows : List (List Int)} (L : Lvl S a last k rows) (hb : ∀ m, Pth S last m a → k + 1 ≤ m.length) {r : List Int} (h : r ∈ rows) (e : lst r = last) : Best S last r a := by
  obtain ⟨q1, q2, q3⟩ := L.pth r h
  rw [e] at q1
  refine ⟨q1, fun m hm => ?_⟩
  have z := hb m hm
  by_cases c : m.length = k + 1
  · obtain ⟨y, hy, e2, ll⟩ := L.all last m (Int.le_refl _) hm c
    have same : y = r := by
      by_cases ne : y = r
      · exact ne
      · obtain ⟨i, hi⟩ := List.getElem?_of_mem hy
        obtain ⟨j, hj⟩ := List.getElem?_of_mem h
        have hi2 := List.getElem?_eq_some_iff.mp hi
        have hj2 := List.getElem?_eq_some_iff.mp hj
        rcases Nat.lt_trichotomy i j with c | c | c
        · have w := List.pairwise_iff_getElem.mp L.one i j hi2.1 hj2.1 c
          rw [hi2.2, hj2.2, e2, e] at w
          exact absurd rfl w
        · subst c
          rw [hi] at hj
          exact Option.some.inj hj
        · have w := List.pairwise_iff_getElem.mp L.one j i hj2.1 hi2.1 c
          rw [hi2.2, hj2.2, e2, e] at w
          exact absurd rfl w
    rw [← same]
    exact .inr ll
  · exact .inl (by omega)
theorem lvl_none (hs : ∀ p ∈ S, p.1 < p.2) {rows : List (List Int)} (L : Lvl S a last k rows) (hb : ∀ m, Pth S last m a → k + 1 ≤ m.length) (e : rows = []) : ∀ m, ¬ Pth S last m a := fun m hm => by
  obtain ⟨l1, u, p1, h1, h2⟩ := hm.front (k := k) (hb m hm) hs
  obtain ⟨r, hr, _⟩ := L.all u l1 h2 p1 h1
  rw [e] at hr
  cases hr
theorem lvl_up (hs : ∀ p ∈ S, p.1 < p.2) {rows : List (List Int)} (L : Lvl S a last k rows) (hb : ∀ m, Pth S last m a → k + 1 ≤ m.length) (h : ∀ r ∈ rows, lst r ≠ last) : ∀ m, Pth S last m a → k + 1 + 1 ≤ m.length := fun m hm => by
  have z := hb m hm
  by_cases c : m.length = k + 1
  · obtain ⟨y, hy, e2, _⟩ := L.all last m (Int.le_refl _) hm c
    exact absurd e2 (h y hy)
  · omega
theorem lvl_small (hs : ∀ p ∈ S, p.1 < p.2) {rows : List (List Int)} (L : Lvl S a last k rows) (h : rows ≠ []) : a + (k : Int) ≤ last := by
  cases rows with
  | nil => exact absurd rfl h
  | cons r rs =>
    obtain ⟨q1, q2, q3⟩ := L.pth r List.mem_cons_self
    have b := q1.bound hs
    rw [q3] at b
    omega
end Sw

set_option Elab.async false
set_option linter.all false
set_option maxRecDepth 100000
namespace Ho
open PySem PySem.Spec PySem.Calls PyProof.Rows L2 LamX NdefX Ed Sx Ru
open Ed.Enc (enc)
section
variable {α : Type} [Enc α] {T : Tbs} {K : PySem.W.Frag} {σ : L2.St} {G0 H0 F G H : Hp} {Γ Γ' : List Sl} {i j : Nat} {te tl ta tb ty td tv : TE} {tb2 : TS} {D : Ends}
theorem st_forN [NoL α] {γ : Type} {xs : List α} {tg : α → List Sl → List Sl} {g : TG} (Γi : Nat → γ → List Sl) (ok : Nat → γ → Prop) (s : Sat T G0 H0 F Γ σ G H) (h : ∀ {G}, SatI (Γ.map fz) σ G → EvN T tl σ G xs) (hg : TgS T g (fun x : α => IsE x) tg) (c0 : γ) (o0 : ok 0 c0) (h0 : Wk Γ (Γi 0 c0))
    (hs : ∀ F' k x c σ G H, Ex F F' → xs[k]? = some x → ok k c → Sat T G0 H0 F' (tg x (Γi k c)) σ G H → tb2 { D with nx := fun σ H => ∃ c' G, ok (k + 1) c' ∧ Sat T G0 H0 F' (Γi (k + 1) c') σ G H, ct := fun σ H => ∃ c' G, ok (k + 1) c' ∧ Sat T G0 H0 F' (Γi (k + 1) c') σ G H, bk := D.nx } σ H)
    (hd : ∀ c σ G H, ok xs.length c → Sat T G0 H0 F (Γi xs.length c) σ G H → D.nx σ H) : tFor (iList K tl) g tb2 D σ H := h s.fzI H s.fz_kn _ fun p vs G2 H2 n p0 hG hp r => by
  have n' := s.th_nx n
  have no : ¬ Owned Γ σ p := fun c => by
    obtain ⟨_, _, o, e, _⟩ := s.owned c
    rw [p0] at e
    cases e
  have hG' : thG Γ σ G2 p = none := (th_out no).trans hG
  have nf := n'.freeze p0 hG' hp nt_lst
  have s1 := s.step nf
  have r' : DqAll (upd (thG Γ σ G2) p (.lst vs)) vs (xs.map enc) := da_ex (Ex.new hG') (da_th (s.th_soft n) (noL_all xs) r)
  have hl := da_len r'
  rw [List.length_map] at hl
  refine ⟨p, rfl, ⟨vs, .inl (.inl hp)⟩, ?_⟩
  have fx : Ex F (upd (thG Γ σ G2) p (.lst vs)) := s1.fl
  refine for_it (walk_list (K := K) (a := p) (xs := vs)) (fun k σ' H' => ∃ c G', ok k c ∧ Sat T G0 H0 (upd (thG Γ σ G2) p (.lst vs)) (Γi k c) σ' G' H') ⟨c0, _, o0, (s1.floor (Ex.refl _)).weak h0⟩ (fun k σ' H' _ ⟨c, G', o, s'⟩ => ?_) (fun k v σ' H' H'' hk ⟨c, G', o, s'⟩ y => ?_) fun σ' H' ⟨c, G', o, s'⟩ => ?_
  · exact .inl (.inl (s'.kn.le _ _ (s'.fl _ _ upd_same)))
  · obtain ⟨e1, hv⟩ := y
    subst e1
    obtain ⟨d, hd', rv⟩ := da_at (da_ex s'.fl r') hv
    rw [List.getElem?_map] at hd'
    obtain ⟨x, hx, rfl⟩ := Option.map_eq_some_iff.mp hd'
    exact hg s' rv _ fun σ2 s2 => hs _ k x c σ2 _ _ fx hx o s2
  · rw [hl] at o s'
    exact hd c _ _ _ o (s'.floor (fx.trans s'.fl))
end
def NewL (H0 : Hp) (v : V) : Prop := ∃ p, v = .ref p ∧ H0 p = none
def DfR (H0 : Hp) (G : Hp) (vs : List (Key × V)) (ks : List (Int × List Int)) : Prop := DkR G vs ks ∧ ∀ p ∈ vs, NewL H0 p.2
theorem df_ex {H0 G G2 : Hp} {vs : List (Key × V)} {ks : List (Int × List Int)} (e : Ex G G2) (h : DfR H0 G vs ks) : DfR H0 G2 vs ks := ⟨dk_ex e h.1, h.2⟩
theorem valV_mem : ∀ {vs : List (Key × V)} {k : Key} {v : V}, valV vs k = some v → ∃ p ∈ vs, p.2 = v
  | [], _, _, h => by cases h
  | p :: vs, k, v, h => by
    by_cases e : p.1 = k
    · rw [valV_pos e] at h
      exact ⟨p, List.mem_cons_self, Option.some.inj h⟩
    · rw [valV_neg e] at h
      obtain ⟨q, hq, e⟩ := valV_mem h
      exact ⟨q, List.mem_cons_of_mem _ hq, e⟩
theorem df_put {H0 G : Hp} {i : Int} {x : List Int} {v : V} {vs : List (Key × V)} {ks : List (Int × List Int)} (h : DfR H0 G vs ks) (hn : lk ks i = none) (hv : Dq G v (enc x)) (hw : NewL H0 v) : DfR H0 G (putK vs (.inl i) v) (ks ++ [(i, x)]) := by
  refine ⟨dk_put h.1 hn hv, fun p hp => ?_⟩
  have z : valV vs (.inl i) = none := by
    rcases dk_get (i := i) h.1 with ⟨_, z⟩ | ⟨_, _, e, _⟩
    · exact z
    · rw [hn] at e
      cases e
  rw [putK_new v z] at hp
  rcases List.mem_append.mp hp with c | c
  · exact h.2 p c
  · rw [List.mem_singleton.mp c]
    exact hw
def IsDf (H0 : Hp) (ks : List (Int × List Int)) : Rp := fun G v => ∃ a vs, v = .ref a ∧ G a = some (.dK vs) ∧ DfR H0 G vs ks
theorem isDf_ex {H0 : Hp} {ks : List (Int × List Int)} : Mono (IsDf H0 ks) := ⟨fun e ⟨a, vs, h, g, r⟩ => ⟨a, vs, h, e _ _ g, df_ex e r⟩⟩
instance {H0 : Hp} {ks : List (Int × List Int)} : MonoC (IsDf H0 ks) := ⟨isDf_ex⟩
def ODf (H0 : Hp) (ks : List (Int × List Int)) : Ow where
  P := fun G _ o => ∃ vs, o = .dK vs ∧ DfR H0 G vs ks
  R := IsDf H0 ks
  mono := fun e ⟨vs, h, r⟩ => ⟨vs, h, df_ex e r⟩
  soft := fun ⟨vs, h, _⟩ => by
    rw [h]
    trivial
  toR := fun e ⟨vs, h, r⟩ => by
    subst h
    exact ⟨_, vs, rfl, e, r⟩
  monoR := isDf_ex
section
variable {T : Tbs} {K : PySem.W.Frag} {σ : L2.St} {G0 H0 F G H : Hp} {Γ Γ' : List Sl} {i j : Nat} {te tl ta tb ty td tv : TE} {D : Ends} {ks : List (Int × List Int)} {k : Int} {x : List Int} {Q : VK} {E : XK}
theorem EvR.dn (h : EvR T te σ G (IsDf H0 ks)) : EvR T te σ G (IsDn ks) := fun H k Q q => h H k Q fun v G2 H2 n ⟨a, vs, e, g, r⟩ => q v G2 H2 n ⟨a, vs, e, g, r.1⟩
theorem Sat.ownF (s : Sat T G0 H0 F Γ σ G H) (hi : Γ[i]? = some (.ow (ODf H0 ks))) : ∃ p vs, σ[i]? = some (some (.ref p)) ∧ G p = none ∧ H p = some (.dK vs) ∧ DfR H0 G vs ks := by
  obtain ⟨p, o, e, z0, z1, z2, vs, rfl, r⟩ := s.ow i _ hi
  exact ⟨p, vs, e, z1, z2, r⟩
theorem st_asgDf (s : Sat T G0 H0 F Γ σ G H) (ha : ∀ {G}, SatI (Γ.map hd) σ G → Ev T ta σ G k) (hb : ∀ {G}, SatI (Γ.map hd) σ G → EvN T tb σ G x) (c : ∀ σ G H, Sat T G0 H0 F (Γ.set i (.ow (ODf H0 [(k, x)]))) σ G H → D.nx σ H) : tAsg (tDisp [(ta, tb)]) (gName i) D σ H := fun d hd0 => by
  have n0 := Nx.fresh (o := .dK []) s.kn hd0
  refine ha s.hdI _ n0.kn _ fun u G1 H1 n1 r1 => hb (s.hdI.ex n1.ex) H1 n1.kn _ fun p0 us G2 H2 n2 h0 hG hp r2 => ?_
  have nf := n2.freeze h0 hG hp nt_lst
  have nn := n1.trans nf
  obtain ⟨y1, y2⟩ := stays nn (s.kn.none hd0) (upd_same (H := H) (a := d) (o := .dK [])) nt_dK nu_dK
  have e1 := dq_int r1
  subst e1
  have fresh : NewL H0 (.ref p0) := ⟨p0, rfl, s.nx.dom p0 (n0.dom p0 (n1.dom p0 h0))⟩
  have r2 : Dq (upd G2 p0 (.lst us)) (.ref p0) (enc x) := .lst upd_same (da_ex (Ex.new hG) r2)
  refine ⟨y2, [(.inl k, .ref p0)], rfl, by show 1 ≤ 15; decide, ?_⟩
  have all := (n0.trans nn).mut (o' := .dK (mergeK [] [(Sum.inl k, V.ref p0)])) hd0 y1 y2 True.intro
  exact c _ _ _ ((s.step all).setOw (s.nx.dom d hd0) y1 upd_same ⟨_, rfl, df_put (ks := []) (vs := []) ⟨.nil, fun p hp => by cases hp⟩ rfl r2 fresh⟩ (s.fresh hd0))
def GotR (H0 : Hp) (o : Option (List Int)) : Rp := fun G v => Dq G v (enc o) ∧ (o ≠ none → NewL H0 v)
theorem ev_dget1F (hb : EvR T tb σ G (IsDf H0 ks)) (ha : Ev T ta σ G k) : EvR T (tDGet1 tb ta) σ G (GotR H0 (lk ks k)) := fun H kn Q q =>
  hb H kn _ fun v G1 H1 n1 r1 => by
    obtain ⟨a, vs, rfl, g, r, nw⟩ := r1
    refine ⟨a, rfl, .inl ⟨vs, .inl (n1.kn.le _ _ g)⟩, EvR.mono isD_ex ha n1.ex H1 n1.kn _ fun u G2 H2 n2 r2 => ?_⟩
    rw [dq_int r2]
    refine ⟨_, DGet.k (k := Sum.inl k) (n2.kn.le _ _ (n2.ex _ _ g)), ?_⟩
    rcases dk_get (i := k) r with ⟨e1, e2⟩ | ⟨y, w, e1, e2, e3⟩
    · rw [e2]
      rw [e1] at q
      exact q _ G2 H2 (n1.trans n2) ⟨.non, fun z => absurd rfl z⟩
    · rw [e2]
      rw [e1] at q
      obtain ⟨p, hp, ep⟩ := valV_mem e2
      exact q _ G2 H2 (n1.trans n2) ⟨dq_ex n2.ex e3, fun _ => by
        rw [← ep]
        exact nw p hp⟩
theorem nx_hidG {G2 H2 : Hp} {p : Addr} (n : Nx T G0 H0 G2 H2) (h : H0 p = none) (k0 : Kn T G0 H0) : Nx T G0 H0 (hid p G2) H2 := by
  have e : Ex (hid p G2) G2 := fun a o z => by
    by_cases c : a = p
    · subst c
      rw [hid_at] at z
      cases z
    · rw [hid_ne c] at z
      exact z
  refine ⟨fun a o z => ?_, n.kn.sub e, n.keep, n.dom, fun a z => ?_, n.tbs⟩
  · have c : a ≠ p := fun c => by
      subst c
      rw [k0.none h] at z
      cases z
    rw [hid_ne c]
    exact n.ex a o z
  · by_cases c : a = p
    · subst c
      exact .inl hid_at
    · rw [hid_ne c]
      exact n.sep a z
def outO (o : Option (List Int)) : Out := match o with
  | none => .val (IsV .non)
  | some l => .new (OL (l.map enc))
/-- a list that was made since the def began is told anew as one's own -/
theorem st_retG {o : Option (List Int)} (s : Sat T G0 H0 F Γ σ G H) (k0 : Kn T G0 H0) (h : ∀ {G}, SatI (Γ.map fz) σ G → EvR T te σ G (GotR H0 o)) (c : Wish T G0 H0 D.rt E (outO o)) : tRet te D σ H :=
  h s.fzI H s.fz_kn _ fun v G2 H2 n r => by
    have nn := s.fz_nx.trans n
    cases o with
    | none =>
      have r1 : Dq G2 v .none := r.1
      cases r1
      exact c _ G2 H2 nn rfl
    | some l =>
      obtain ⟨p, rfl, hp⟩ := r.2 (fun z => by cases z)
      have r1 : Dq G2 (.ref p) (.list (l.map PyData.int)) := r.1
      cases r1 with
      | @lst _ vs _ g1 g2 =>
        have hv := da_ints_eq g2
        subst hv
        exact c p _ (hid p G2) H2 (nx_hidG nn hp k0) hp hid_at (nn.kn.le _ _ g1) ⟨_, rfl, da_ints _⟩
theorem st_dputF (s : Sat T G0 H0 F Γ σ G H) (hi : Γ[i]? = some (.ow (ODf H0 ks))) (hz : ks.length < 100000) (hn : lk ks k = none) (hv : ∀ {G}, SatI (Γ.map hd) σ G → EvN T tv σ G x) (hx : ∀ {G}, SatI (Γ.map hd) σ G → Ev T ty σ G k) (c : ∀ G H, Sat T G0 H0 F (Γ.set i (.ow (ODf H0 (ks ++ [(k, x)])))) σ G H → D.nx σ H) : sDPut (tVar i) ty tv D σ H := by
  refine hv s.hdI H s.kn _ fun p0 us G1 H1 n1 h0 hG hp r1 => ?_
  have nf := n1.freeze h0 hG hp nt_lst
  have fresh : NewL H0 (.ref p0) := ⟨p0, rfl, s.nx.dom p0 h0⟩
  have r1 : Dq (upd G1 p0 (.lst us)) (.ref p0) (enc x) := .lst upd_same (da_ex (Ex.new hG) r1)
  have s1 := s.step nf
  obtain ⟨p, vs, e, z1, z2, r⟩ := s1.ownF hi
  refine ⟨.ref p, e, hx s1.hdI H1 s1.kn _ fun w G2 H2 n2 r2 => ?_⟩
  have s2 := s1.step n2
  obtain ⟨y1, y2⟩ := stays n2 z1 z2 nt_dK nu_dK
  rw [dq_int r2]
  have hl := Paired.length r.1
  exact ⟨p, _, rfl, DPut.k (k := Sum.inl k) (v := .ref p0) y2 (Nat.lt_of_lt_of_le (show vs.length < 100000 by omega) (by decide)), c _ _ (s2.mut hi e ⟨_, rfl, df_put (df_ex n2.ex r) hn (dq_ex n2.ex r1) fresh⟩)⟩
theorem lists_at {G : Hp} : ∀ {vs : List V} {xss : List (List Int)}, DqAll G vs (xss.map enc) → ∃ bs : List Addr, vs = bs.map V.ref ∧ Paired (fun b (l : List Int) => G b = some (.lst (l.map V.int))) bs xss
  | _, [], .nil => ⟨[], rfl, .nil⟩
  | _, l :: xss, .cons h t => by
    obtain ⟨bs, e1, e2⟩ := lists_at t
    have h : Dq G _ (.list (l.map PyData.int)) := h
    cases h with
    | @lst b us _ g1 g2 =>
      have hv := da_ints_eq g2
      subst hv
      exact ⟨b :: bs, by rw [List.map_cons, e1], .cons g1 e2⟩
/-- min(xss, key=len): the first of the shortest -/
theorem ev_minLen {xss : List (List Int)} (ha : Ev T ta σ G xss) (h0 : xss ≠ []) : Ev T (tCB (rMinLen K) (tCons ta tNil)) σ G (Sw.fsh xss) := fun H kn Q q =>
  ha H kn _ fun v G1 H1 n1 r1 => by
    have r1 : Dq G1 v (.list (xss.map enc)) := r1
    cases r1 with
    | @lst a vs _ g1 g2 =>
      obtain ⟨bs, rfl, pb⟩ := lists_at g2
      have hl := Paired.length pb
      refine ⟨a, bs, xss.map fun l => l.map V.int, rfl, .inl (.inl (n1.kn.le _ _ g1)), by rw [hl]; exact List.length_pos_iff.mpr h0, ?_, fun i b hb hm => ?_⟩
      · have key : ∀ {bs : List Addr} {xss : List (List Int)}, Paired (fun b (l : List Int) => G1 b = some (.lst (l.map V.int))) bs xss → Paired (fun b y => SqL K H1 b y) bs (xss.map fun l => l.map V.int) := by
          intro bs xss h
          induction h with
          | nil => exact .nil
          | cons h _ ih => exact .cons (.inl (.inl (n1.kn.le _ _ h))) ih
        exact key pb
      · obtain ⟨l, hl2, gl⟩ := paired_at pb hb
        have e : l = Sw.fsh xss := Sw.fsh_of hl2 fun j y hy => by
          have z := hm j (l.map V.int) (y.map V.int) (by rw [List.getElem?_map, hl2]; rfl) (by rw [List.getElem?_map, hy]; rfl)
          rw [List.length_map, List.length_map] at z
          exact z
        refine q _ G1 H1 n1 ?_
        rw [← e]
        exact .lst gl (da_ints l)
end
end Ho

set_option Elab.async false
set_option linter.all false
set_option maxRecDepth 100000
namespace Ho
open PySem PySem.Spec PySem.Calls PyProof.Rows L2 LamX NdefX Ed Sx Ru
open Ed.Enc (enc)
def IsDp (H0 : Hp) (p : Addr) (ks : List (Int × List Int)) : Rp := fun G v => v = .ref p ∧ ∃ vs, G p = some (.dK vs) ∧ DfR H0 G vs ks
theorem isDp_ex {H0 : Hp} {p : Addr} {ks : List (Int × List Int)} : Mono (IsDp H0 p ks) := ⟨fun e ⟨h, vs, g, r⟩ => ⟨h, vs, e _ _ g, df_ex e r⟩⟩
instance {H0 : Hp} {p : Addr} {ks : List (Int × List Int)} : MonoC (IsDp H0 p ks) := ⟨isDp_ex⟩
/-- what doesn't lean on a dict from numbers -/
class Uf (R : Rp) : Prop where
  u : ∀ {G : Hp} {p : Addr} {kvs : List (Key × V)} {v : V}, G p = some (.dK kvs) → R G v → R (hid p G) v
theorem hid_keep {G : Hp} {p a : Addr} {kvs : List (Key × V)} {o : HO} (hp : G p = some (.dK kvs)) (ha : G a = some o) (h : ∀ kvs, o ≠ .dK kvs) : hid p G a = some o := by
  have ne : a ≠ p := fun e => by
    subst e
    rw [hp] at ha
    exact h kvs (Option.some.inj ha).symm
  rw [hid_ne ne]
  exact ha
mutual
theorem dq_uf {G : Hp} {p : Addr} {kvs : List (Key × V)} (hp : G p = some (.dK kvs)) : ∀ {d : PyData} {v : V}, Dq G v d → Dq (hid p G) v d
  | _, _, .non => .non
  | _, _, .bl b => .bl b
  | _, _, .int i => .int i
  | _, _, .str x => .str x
  | _, _, .lst h t => .lst (hid_keep hp h fun _ z => by cases z) (da_uf hp t)
  | _, _, .tup h t => .tup (hid_keep hp h fun _ z => by cases z) (da_uf hp t)
theorem da_uf {G : Hp} {p : Addr} {kvs : List (Key × V)} (hp : G p = some (.dK kvs)) : ∀ {ds : List PyData} {vs : List V}, DqAll G vs ds → DqAll (hid p G) vs ds
  | _, _, .nil => .nil
  | _, _, .cons h t => .cons (dq_uf hp h) (da_uf hp t)
end
instance {d : PyData} : Uf (IsD d) := ⟨fun hp h => dq_uf hp h⟩
instance {x : V} : Uf (IsV x) := ⟨fun _ h => h⟩
instance {ps : List (Int × Int)} : Uf (IsT ps) := ⟨fun hp ⟨a, kvs, h1, h2, h3⟩ => ⟨a, kvs, h1, hid_keep hp h2 (fun _ z => by cases z), h3⟩⟩
def UfL : List Sl → Prop
  | [] => True
  | .im R :: l => Uf R ∧ UfL l
  | .un :: l => UfL l
  | .ow _ :: _ => False
theorem UfL.at_ : ∀ {l : List Sl}, UfL l → ∀ (i : Nat), (∀ R, l[i]? = some (.im R) → Uf R) ∧ ∀ O, l[i]? ≠ some (.ow O)
  | [], _, i => ⟨fun R h => by simp at h, fun O h => by simp at h⟩
  | .im R :: l, h, 0 => ⟨fun R' e => by
    have e : Sl.im R = Sl.im R' := Option.some.inj e
    cases e
    exact h.1, fun O e => by cases e⟩
  | .un :: l, h, 0 => ⟨fun R e => (by cases e), fun O e => (by cases e)⟩
  | .im R :: l, h, i + 1 => UfL.at_ (l := l) h.2 i
  | .un :: l, h, i + 1 => UfL.at_ (l := l) h i
  | .ow _ :: _, h, _ => h.elim
section
variable {T : Tbs} {K : PySem.W.Frag} {σ : L2.St} {G0 H0 F G H : Hp} {Γ Γ' : List Sl} {i j : Nat} {te tl ta tb ty td tv : TE} {D : Ends} {ks : List (Int × List Int)} {k : Int} {x : List Int} {Q : VK} {E : XK} {p : Addr}
theorem EvR.dp (h : EvR T te σ G (IsDp H0 p ks)) : EvR T te σ G (IsDn ks) := fun H k Q q => h H k Q fun v G2 H2 n ⟨e, vs, g, r⟩ => q v G2 H2 n ⟨p, vs, e, g, r.1⟩
def ODp (H0 : Hp) (p : Addr) (ks : List (Int × List Int)) : Ow where
  P := fun G a o => a = p ∧ ∃ vs, o = .dK vs ∧ DfR H0 G vs ks
  R := IsDp H0 p ks
  mono := fun e ⟨a, vs, h, r⟩ => ⟨a, vs, h, df_ex e r⟩
  soft := fun ⟨a, vs, h, _⟩ => by
    rw [h]
    trivial
  toR := fun e ⟨a, vs, h, r⟩ => by
    subst a h
    exact ⟨rfl, vs, e, r⟩
  monoR := isDp_ex
theorem Sat.freezeF (s : Sat T G0 H0 F Γ σ G H) (hi : Γ[i]? = some (.ow (ODf H0 ks))) : ∃ p G2, H0 p = none ∧ F p = none ∧ Sat T G0 H0 F (Γ.set i (.im (IsDp H0 p ks))) σ G2 H := by
  obtain ⟨p, o, e, z0, z1, z2, vs, rfl, r⟩ := s.ow i _ hi
  have fp : F p = none := by
    cases c : F p with
    | none => rfl
    | some o =>
      have := s.fl p o c
      rw [z1] at this
      cases this
  have z := s.reOw (O' := ODp H0 p ks) hi fun p' o' e' h' hP => by
    rw [e] at e'
    cases e'
    exact ⟨rfl, hP⟩
  have hl : i < Γ.length := (List.getElem?_eq_some_iff.mp hi).1
  obtain ⟨G2, z⟩ := z.freeze i (by rw [List.getElem?_set_self hl])
  rw [List.set_set] at z
  exact ⟨p, G2, z0, fp, z⟩
theorem Sat.unfreezeF (s : Sat T G0 H0 F Γ σ G H) (hi : Γ[i]? = some (.im (IsDp H0 p ks))) (h0 : H0 p = none) (hF : F p = none) (k0 : Kn T G0 H0) (u : UfL (Γ.set i .un)) : Sat T G0 H0 F (Γ.set i (.ow (ODf H0 ks))) σ (hid p G) H := by
  obtain ⟨v, e, rfl, vs, g, r⟩ := s.im.at_ i _ hi
  have hl : i < Γ.length := (List.getElem?_eq_some_iff.mp hi).1
  have other : ∀ {j : Nat}, i ≠ j → (∀ R, Γ[j]? = some (.im R) → Uf R) ∧ ∀ O, Γ[j]? ≠ some (.ow O) := fun {j} ne => by
    have z := u.at_ j
    rw [List.getElem?_set_ne ne] at z
    exact z
  refine ⟨nx_hidG s.nx h0 k0, fun a o z => ?_, ⟨by rw [List.length_set]; exact s.im.len, fun j R h => ?_, fun j R h => ?_⟩, fun j O h => ?_, fun j k O O' q hj hk _ _ => ?_⟩
  · have ne : a ≠ p := fun c => by
      subst c
      rw [hF] at z
      cases z
    rw [hid_ne ne]
    exact s.fl a o z
  · rcases get_set h with ⟨_, c, _⟩ | ⟨_, c⟩
    · cases c
    · exact s.im.mo j R c
  · rcases get_set h with ⟨_, c, _⟩ | ⟨ne, c⟩
    · cases c
    · obtain ⟨w, e2, r2⟩ := s.im.at_ j R c
      exact ⟨w, e2, ((other ne).1 R c).u g r2⟩
  · rcases get_set h with ⟨rfl, c, _⟩ | ⟨ne, c⟩
    · cases c
      have da : ∀ {vs : List (Key × V)} {ks : List (Int × List Int)}, DkR G vs ks → DkR (hid p G) vs ks := fun h => Paired.mapP h fun _ _ z => ⟨z.1, dq_uf g z.2⟩
      exact ⟨p, .dK vs, e, h0, hid_at, s.kn.le _ _ g, vs, rfl, da r.1, r.2⟩
    · exact absurd c ((other ne).2 O)
  · rcases get_set hj with ⟨e1, _, _⟩ | ⟨ne, c⟩
    · rcases get_set hk with ⟨e2, _, _⟩ | ⟨ne2, c2⟩
      · rw [← e1, ← e2]
      · exact absurd c2 ((other ne2).2 O')
    · exact absurd c ((other ne).2 O)
theorem el_star1 {es : List PyData} (h : EvR T ta σ G (IsD (.list es))) : EvL T (StX.tStar K ta tNil) σ G es := by
  have z := el_star (K := K) (ds := []) h el_nil
  rw [List.append_nil] at z
  exact z
theorem st_asgU {g : TG} {ι : Type} {RR : ι → Rp} {tg : ι → List Sl → List Sl} {x : ι} (s : Sat T G0 H0 F Γ σ G H) (h : ∀ {G}, SatI (Γ.map hd) σ G → EvR T te σ G (RR x)) (hg : TgS T g RR tg) (c : ∀ σ G H, Sat T G0 H0 F (tg x Γ) σ G H → D.nx σ H) : tAsg te g D σ H :=
  h s.hdI H s.kn _ fun v G2 H2 n r => hg (s.step n) r _ fun σ2 s2 => c σ2 G2 H2 s2
end
end Ho

set_option Elab.async false
set_option linter.all false
set_option maxRecDepth 100000
namespace Pg
open PySem PySem.Spec PySem.Calls PyProof.Rows L2 LamX NdefX Ed Ho Sx Ru
open Ed.Enc (enc)
abbrev s_chain : Stmt := topS 24
theorem sc_chain : FnScope ["one", "other", "pair", "first", "last"] ["one", "other", "pair"] (defScope s_chain) := ⟨rfl, rfl, rfl, by decide +kernel, rfl, by decide +kernel, by decide +kernel⟩
abbrev s_shortest_rise : Stmt := topS 25
theorem sc_shortest_rise : FnScope ["steps", "first", "last", "rises", "low", "high", "nexts", "best"] ["steps", "first", "last"] (defScope s_shortest_rise) := ⟨rfl, rfl, rfl, by decide +kernel, rfl, by decide +kernel, by decide +kernel⟩
section
variable {P : Program} {w : World} {K : PySem.W.Frag} {mg : Str → Option Value} {base : Heap} {T : Tbs} {f f1 f2 f3 f4 : Addr} {fd d1 d2 d3 d4 : FuncData} {σ : L2.St} {G : Hp} {ta tb tc td : TE} {E : XK}
abbrev spRise (T : Tbs) : Sp := Sp1 T (fun ((S, a, b) : List (Int × Int) × Int × Int) => (∀ p ∈ S, p.1 < p.2) ∧ 1 ≤ a ∧ a ≤ b ∧ b ≤ 12) (fun (S, a, b) => [IsT S, IsE a, IsE b]) (fun (S, a, b) => outO (Sw.rise S a b))
theorem ok_rise (F : Fun K "shortest_rise" "shortest_rise" s_shortest_rise f fd) (B : Bi mg) (J : Bj mg) : FnOk P w K mg base CX0 1 f fd ["steps", "first", "last"] (spRise T) := by
  refine def_ok F sc_shortest_rise (fun b => rfl) (fun b => ⟨isT_ex, isD_ex, isD_ex, True.intro⟩) fun ⟨S, a, b⟩ ⟨hs, h1, h2, h3⟩ cdv A outer s0 G0 H0 σ Q E hr q s => ⟨_, (pss_cons (ps_set (i := 3) sc_shortest_rise.nd rfl (.inr rfl) (pe_disp (pps_cons (pv 2) (pe_lst (pa_cons (pv 2) pa_nil)) pps_nil) (by rfl) (by rfl) (fun z => by cases z) (by decide)))
        (pss_cons (ps_for PassesOwn.never rfl (pi_range3 (by rfl) B.range (pa_cons (pe_op op_sub (pv 2) pe_int) (pa_cons (pe_op op_sub (pv 1) pe_int) (pa_cons (pe_un un_neg pe_int) pa_nil)))) (pg_name (i := 4) sc_shortest_rise.nd rfl (.inr rfl))
          (pss_cons (ps_setLc (i := 6) (own := [("high", 5)]) (g := gName 5) rfl sc_shortest_rise.nd rfl rfl (sw_true rfl rfl rfl (by decide +kernel)) (pi_range2 (by rfl) B.range (pa_cons (pe_op op_add (pv 4) pe_int) (pa_cons (pe_op op_add (pv 2) pe_int) pa_nil))) (blkOk_by (own := [("high", 5)]) (N := ["steps", "first", "last", "rises", "low", "high", "nexts", "best"]) (sc := defScope s_shortest_rise) (by decide +kernel)) (fun _ _ _ _ _ => pg_name (i := 5) sc_shortest_rise.nd rfl (.inl rfl)) (fun _ _ _ _ _ => pts_one (PW.pt (pw_and (pt_cmp (pc_din (hu_of hr) (pe_tup (pa_cons (pv 4) (pa_cons (pv 5) pa_nil))) (pv 0))) (pw_and1 (pt_cmp (pc_din (hu_of hr) (pv 5) (pv 3))))))) (fun _ _ _ _ _ => (pv 5)))
        (pss_one (ps_if (pt_truth (pv 6) (by intro _; rfl)) (pss_cons (ps_set (i := 7) sc_shortest_rise.nd rfl (.inl rfl) (Ru.pe_minLenK (K := K) rfl rfl (by rfl) J.min (by rfl) B.len (pa_cons (pe_lc (own := [("high", 5)]) rfl sc_shortest_rise.nd (pi_listK (K := K) rfl (pv 6)) (blkOk_by (own := [("high", 5)]) (N := ["steps", "first", "last", "rises", "low", "high", "nexts", "best"]) (sc := defScope s_shortest_rise) (by decide +kernel)) (fun _ _ _ _ _ => pg_name (i := 5) sc_shortest_rise.nd rfl (.inl rfl)) (fun _ _ _ _ _ => pts_nil) (fun _ _ _ _ _ => (pe_dget (hu_of hr) (pv 3) (pv 5) (fun _ _ => rfl)))) pa_nil)))
        (pss_one (ps_dput (hu_of hr) (pv 3) (pv 4) (pe_lst (pa_cons (pv 4) (StX.pa_star (pv 7) pa_nil))) rfl))) pss_nil))))
        (pss_one (ps_ret (pe_dget1 (hu_of hr) (pv 3) (pv 1) ⟨rfl, rfl, rfl, rfl⟩))))), ?_⟩
  dsimp only at q s
  have k0 : Kn T G0 H0 := s.kn
  have k0' := k0
  have hs' : ∀ p ∈ S, p.1 < p.2 := hs
  refine q_seq (st_asgDf s (fun s => s.var 2 rfl) (fun s => en_one (s.var 2 rfl)) fun σ G H s => ?_)
  dsimp only
  refine q_seq (st_for (fun i => [.im (IsT S), .im (IsE a), .im (IsE b), .ow (ODf H0 (Sw.rz S b i)), .un, .un, .un, .un]) s (fun s => src_dn (ev_sub (s.var 2 rfl) ev_int) (ev_sub (s.var 1 rfl) ev_int) (ev_neg ev_int)) tgs_name ?_ (fun F' i x σ G H e hx s => ?_) fun σ G H s => ?_)
  · exact .same (.same (.same (.same (.un (.un (.un (.un .nil)))))))
  · have hi : i < (b - 1 - (a - 1)).toNat := by
      have z := (List.getElem?_eq_some_iff.mp hx).1
      rw [List.length_reverse, Sw.len_rngI] at z
      omega
    rw [down_at hi] at hx
    have ex : x = b - ((i : Int) + 1) := by
      have := Option.some.inj hx
      omega
    have RZ := Sw.rz_ok hs' b i
    have kl := RZ.len
    have fresh : lk (Sw.rz S b i) x = none := RZ.out x (.inl (by omega))
    have nx : Sw.rz S b (i + 1) = Sw.rzStep S b x (Sw.rz S b i) := by
      rw [ex]
      rfl
    generalize Sw.rz S b i = ks at RZ kl fresh nx s
    obtain ⟨p, G1, p0, fp, s⟩ := s.freezeF (i := 3) rfl
    dsimp only at s
    dsimp only
    refine q_seq (st_asg (R := IsE (Sw.nexts S ks x b)) s (fun s => EvN.ev (en_lcF (xs := Sw.rngI (x + 1) (b + 1)) s (fun h => decide ((x, h) ∈ S) && (lk ks h).isSome) (src_r2 (ev_add (s.var 4 rfl) ev_int) (ev_add (s.var 2 rfl) ev_int)) tgc_name (by rw [Sw.len_rngI]; omega) (fun h hh {σ G} s => ?_) fun h hh {σ G} s => s.var 5 rfl)) fun σ G H s => ?_)
    · exact et_and (et_test (ev_dinT (ev_pair (s.var 4 rfl) (s.var 5 rfl)) (s.var 0 rfl))) fun _ => et_test (ev_dinN (s.var 5 rfl) (EvR.dp (s.var 3 rfl)))
    dsimp only
    have nl : (Sw.nexts S ks x b).length ≤ 20 := Nat.le_trans (List.length_filter_le _ _) (by rw [Sw.len_rngI]; omega)
    refine st_if s (fun s => et_truD (s.var 6 rfl)) (fun hb G H s => ?_) fun hb G H s => ?_
    · have ne : ¬ Sw.nexts S ks x b = [] := fun z => by
        rw [z] at hb
        cases hb
      unfold Sw.rzStep at nx
      rw [if_neg ne] at nx
      refine q_seq (st_asg (R := IsE (Sw.fsh ((Sw.nexts S ks x b).map fun h => (lk ks h).getD []))) s (fun s => ev_minLen (EvN.ev (en_lcM s (fun h => (lk ks h).getD []) (src_l (s.var 6 rfl)) tgc_name (by omega) fun h hh {σ G} s => ev_dgetN (EvR.dp (s.var 3 rfl)) (s.var 5 rfl) ?_)) (by simpa using ne)) fun σ G H s => ?_)
      · have z := (List.mem_filter.mp hh).2
        rw [Bool.and_eq_true] at z
        cases c : lk ks h with
        | none =>
          rw [c] at z
          cases z.2
        | some l => rfl
      have bl : (Sw.fsh ((Sw.nexts S ks x b).map fun h => (lk ks h).getD [])).length ≤ 20 := by
        obtain ⟨i, hi, _⟩ := Sw.fsh_ex (xss := (Sw.nexts S ks x b).map fun h => (lk ks h).getD []) (by simpa using ne)
        obtain ⟨h, hh, eh⟩ := List.mem_map.mp (List.mem_of_getElem? hi)
        have z := Sw.mem_rngI.mp (List.mem_filter.mp hh).1
        rw [← eh]
        rcases RZ.inn h (by omega) (by omega) with ⟨w, _⟩ | ⟨l, w, Bl⟩
        · rw [w]
          exact Nat.zero_le _
        · rw [w]
          have bd := Bl.1.bound hs'
          show l.length ≤ 20
          omega
      generalize Sw.fsh ((Sw.nexts S ks x b).map fun h => (lk ks h).getD []) = best at nx s bl
      dsimp only
      have s := s.unfreezeF (i := 3) (ks := ks) rfl p0 fp k0' ⟨inferInstance, inferInstance, inferInstance, inferInstance, inferInstance, inferInstance, True.intro⟩
      refine st_dputF (x := x :: best) s rfl (by omega) fresh (fun s => en_lstD (el_cons (s.var 4 rfl) (el_star1 (s.var 7 rfl))) ?_) (fun s => s.var 4 rfl) fun G H s => ?_
      · rw [List.length_map, List.length_cons]
        omega
      rw [← nx] at s
      exact ⟨_, s.weak (.same (.same (.same (.same (.un (.un (.un (.un .nil))))))))⟩
    · have ne : Sw.nexts S ks x b = [] := by
        cases c : Sw.nexts S ks x b with
        | nil => rfl
        | cons y ys =>
          rw [c] at hb
          cases hb
      unfold Sw.rzStep at nx
      rw [if_pos ne] at nx
      have s := s.unfreezeF (i := 3) (ks := ks) rfl p0 fp k0' ⟨inferInstance, inferInstance, inferInstance, inferInstance, inferInstance, True.intro⟩
      rw [← nx] at s
      exact ⟨_, s.weak (.same (.same (.same (.same (.un (.un (.un (.un .nil))))))))⟩
  · dsimp only
    have e : (Sw.rngI (a - 1 + 1) (b - 1 + 1)).reverse.length = (b - a).toNat := by
      rw [List.length_reverse, Sw.len_rngI]
      omega
    rw [e] at s
    refine st_retG (o := lk (Sw.rz S b (b - a).toNat) a) (E := E) s k0' (fun s => ev_dget1F (s.var 3 rfl) (s.var 1 rfl)) ?_
    exact q
abbrev spChain (T : Tbs) : Sp := Sp1 T (fun ((n, r, t, a, b) : Nat × List Int × List Int × Int × Int) => Sw.Row n r ∧ Sw.Row n t ∧ 1 ≤ n ∧ n ≤ 12 ∧ 1 ≤ a ∧ a < b ∧ b ≤ (n : Int)) (fun (n, r, t, a, b) => [IsE r, IsE t, IsE (a, b)]) (fun (n, r, t, a, b) => outO (Sw.rise (Sw.uni r t) a b))
theorem ok_chain (F : Fun K "chain" "chain" s_chain f fd) (B : Bi mg) (D_check_alike : Df P w K mg base "check_alike" 5 f1 d1 ["one", "other"] (spCheckAlike T)) (D_is_pair : Df P w K mg base "is_pair" 2 f2 d2 ["thing", "many"] (spIsPair T)) (D_turned_in_either : Df P w K mg base "turned_in_either" 6 f3 d3 ["one", "other"] (spTie T)) (D_shortest_rise : Df P w K mg base "shortest_rise" 1 f4 d4 ["steps", "first", "last"] (spRise T)) :
    FnOk P w K mg base CX0 7 f fd ["one", "other", "pair"] (spChain T) := by
  refine def_ok F sc_chain (fun b => rfl) (fun b => ⟨isD_ex, isD_ex, isD_ex, True.intro⟩) fun ⟨n, r, t, a, b⟩ ⟨R, S, n1, n2, h1, h2, h3⟩ cdv A outer s0 G H σ Q E hr q s => ⟨_, (pss_cons (ps_expr (pe_call D_check_alike.ok (hr.mono (by decide)) (by rfl) D_check_alike.g D_check_alike.kp D_check_alike.bd .nil pass0 (pa_cons (pv 0) (pa_cons (pv 1) pa_nil))))
        (pss_cons (ps_if (pt_not (pt_val (pe_call D_is_pair.ok (hr.mono (by decide)) (by rfl) D_is_pair.g D_is_pair.kp D_is_pair.bd .nil pass0 (pa_cons (pv 2) (pa_cons (pe_callB (call_lenK (K := K) rfl) (by rfl) B.len PySem.boot_len (pa_cons (pv 0) pa_nil)) pa_nil))))) (pss_one (ps_never)) pss_nil)
        (pss_cons (ps_asg (pv 2) (pg_tupK (K := K) (n := 2) rfl rfl (pgs_cons (pg_name (i := 3) sc_chain.nd rfl (.inl rfl)) (pgs_cons (pg_name (i := 4) sc_chain.nd rfl (.inl rfl)) pgs_nil))))
        (pss_one (ps_ret (pe_call D_shortest_rise.ok (hr.mono (by decide)) (by rfl) D_shortest_rise.g D_shortest_rise.kp D_shortest_rise.bd .nil pass0 (pa_cons (pe_call D_turned_in_either.ok (hr.mono (by decide)) (by rfl) D_turned_in_either.g D_turned_in_either.kp D_turned_in_either.bd .nil pass0 (pa_cons (pv 0) (pa_cons (pv 1) pa_nil))) (pa_cons (pv 3) (pa_cons (pv 4) pa_nil))))))))), ?_⟩
  dsimp only at q
  have rl := R.len
  refine q_seq (st_drop s (fun s => ev_call (ea2 isD_ex isD_ex (s.var 0 rfl) (s.var 1 rfl)) fun vs H Q E h => ⟨n, r, t, R, S, n1, n2, h⟩) fun G H s => ?_)
  dsimp only
  refine q_seq (st_skip s (fun s => et_not (et_B (ev_call (R := IsE (decide (1 ≤ a) && (decide (a < b) && decide (b ≤ (r.length : Int))))) (ea2 isD_ex isD_ex (s.var 2 rfl) (ev_len (s.var 0 rfl))) fun vs H Q E h => ⟨a, b, (r.length : Int), h⟩))) (by rw [decide_eq_true h1, decide_eq_true h2, decide_eq_true (by omega)]; rfl) fun G H s => ?_)
  dsimp only
  refine q_seq (st_asgU (x := (a, b)) s (fun s => s.var 2 rfl) tgs_pair fun σ G H s => ?_)
  dsimp only
  dsimp only at s
  have args : ∀ {σ : L2.St} {G : Hp}, SatI [.im (IsE r), .im (IsE t), .im (IsE (a, b)), .im (IsE a), .im (IsE b)] σ G → EvA T (tCons (tCall (spTie T) [] E (tCons (tVar 0) (tCons (tVar 1) tNil))) (tCons (tVar 3) (tCons (tVar 4) tNil))) σ G [IsT (Sw.uni r t), IsE a, IsE b] := fun s =>
    ea3 isT_ex isD_ex isD_ex (EvM.evT (em_call (ea2 isD_ex isD_ex (s.var 0 rfl) (s.var 1 rfl)) fun vs H Q E h => ⟨n, r, t, R, S, n1, n2, h⟩)) (s.var 3 rfl) (s.var 4 rfl)
  have pre : (∀ p ∈ Sw.uni r t, p.1 < p.2) ∧ 1 ≤ a ∧ a ≤ b ∧ b ≤ 12 := ⟨fun p hp => (Sw.inb_uni R S p.1 p.2 hp).2.1, h1, by omega, by omega⟩
  unfold outO at q
  cases c : Sw.rise (Sw.uni r t) a b with
  | none =>
    rw [c] at q
    exact st_ret s (fun s => ev_call1 (Sw.uni r t, a, b) pre (args s) (by show outO (Sw.rise _ _ _) = _; rw [c]; rfl)) q
  | some l =>
    rw [c] at q
    exact st_retN s (fun s => en_call1 (Sw.uni r t, a, b) pre (args s) (by show outO (Sw.rise _ _ _) = _; rw [c]; rfl)) q
end
end Pg

set_option Elab.async false
set_option linter.all false
set_option maxRecDepth 100000
set_option maxHeartbeats 400000
namespace Pg
open PySem PySem.Spec PySem.Calls PyProof.Rows L2 LamX NdefX Ed
open Ed.Enc (enc)
abbrev sDraw : Stmt := topS 27
abbrev sLRow : Stmt := topS 28
abbrev sLUp : Stmt := topS 31
abbrev sLTwo : Stmt := topS 32
theorem scDraw : FnScope ["_law_script", "_law_k", "_law_cell", "_law_turn", "_law_number"] ["_law_script", "_law_k"] (defScope sDraw) := ⟨rfl, rfl, rfl, by decide +kernel, rfl, by decide +kernel, by decide +kernel⟩
theorem scLRow : FnScope ["_law_script", "_law_k", "_law_many", "_law_left", "_law_found", "_law_j"] ["_law_script", "_law_k", "_law_many"] (defScope sLRow) := ⟨rfl, rfl, rfl, by decide +kernel, rfl, by decide +kernel, by decide +kernel⟩
theorem scLUp : FnScope ["_law_script", "_law_k", "_law_row_here", "_law_steps", "_law_here", "_law_j", "_law_at", "_law_some"] ["_law_script", "_law_k", "_law_row_here", "_law_steps"] (defScope sLUp) := ⟨rfl, rfl, rfl, by decide +kernel, rfl, by decide +kernel, by decide +kernel⟩
theorem scLTwo : FnScope ["_law_script", "_law_k", "_law_most", "_law_number", "_law_many", "_law_one", "_law_other"] ["_law_script", "_law_k", "_law_most"] (defScope sLTwo) := ⟨rfl, rfl, rfl, by decide +kernel, rfl, by decide +kernel, by decide +kernel⟩
section
variable {T : Tbs} {K : PySem.W.Frag} {σ : L2.St} {G G2 H : Hp} {ta tb te tl : TE} {t u : TT} {R R' R'' : Rp} {D : Ends} {tz tu tw : TS}
theorem s_asg {i : Nat} (k : Kn T G H) (h : EvR T te σ G R) (c : ∀ v G2 H2, Nx T G H G2 H2 → R G2 v → D.nx (σ.set i (some v)) H2) : tAsg te (gName i) D σ H := h H k _ fun v G2 H2 n r => c v G2 H2 n r
theorem ev_fdiv {i j : Int} (ha : Ev T ta σ G i) (hb : Ev T tb σ G j) (h0 : 0 < j := by decide) (h1 : j < 1073741824 := by decide) : Ev T (tOp (rI CDiv fun i j => .int (i / j)) ta tb) σ G (i / j) := ev_i (f := fun i j => i / j) ha hb ⟨h0, h1⟩
theorem ev_mod {i j : Int} (ha : Ev T ta σ G i) (hb : Ev T tb σ G j) (h0 : 0 < j := by decide) : Ev T (tOp (rI (fun _ j => 0 < j) fun i j => .int (i % j)) ta tb) σ G (i % j) := ev_i (f := fun i j => i % j) ha hb h0
theorem ev_mul {i j : Int} (ha : Ev T ta σ G i) (hb : Ev T tb σ G j) (h : CMul i j) : Ev T (tOp (rI CMul fun i j => .int (i * j)) ta tb) σ G (i * j) := ev_i (f := fun i j => i * j) ha hb h
theorem ev_add {i j : Int} (ha : Ev T ta σ G i) (hb : Ev T tb σ G j) : Ev T (tOp (rI0 fun i j => .int (i + j)) ta tb) σ G (i + j) := ev_i0 (f := fun i j => i + j) ha hb
theorem ev_sub {i j : Int} (ha : Ev T ta σ G i) (hb : Ev T tb σ G j) : Ev T (tOp (rI0 fun i j => .int (i - j)) ta tb) σ G (i - j) := ev_i0 (f := fun i j => i - j) ha hb
theorem cmul_l {i j : Int} (h0 : -1000000000000 ≤ i) (h1 : i ≤ 1000000000000) : CMul i j := .inl ⟨by omega, by omega⟩
theorem cmul_r {i j : Int} (h0 : -1000000000000 ≤ j) (h1 : j ≤ 1000000000000) : CMul i j := .inr ⟨by omega, by omega⟩
theorem allR1 : ∀ {vs : List V}, AllR G vs [R] → ∃ v, vs = [v] ∧ R G v
  | [v], h => ⟨v, rfl, h.1⟩
  | [], h => h.elim
  | _ :: _ :: _, h => h.2.elim
theorem allR2 : ∀ {vs : List V}, AllR G vs [R, R'] → ∃ v v', vs = [v, v'] ∧ R G v ∧ R' G v'
  | [], h => h.elim
  | v :: vs, h => (allR1 h.2).elim fun v' e => ⟨v, v', by rw [e.1], h.1, e.2⟩
theorem allR3 : ∀ {vs : List V}, AllR G vs [R, R', R''] → ∃ v v' v'', vs = [v, v', v''] ∧ R G v ∧ R' G v' ∧ R'' G v''
  | [], h => h.elim
  | v :: vs, h => (allR2 h.2).elim fun v' e => e.elim fun v'' e => ⟨v, v', v'', by rw [e.1], h.1, e.2⟩
theorem allR4 {R3 : Rp} : ∀ {vs : List V}, AllR G vs [R, R', R'', R3] → ∃ v v' v'' v3, vs = [v, v', v'', v3] ∧ R G v ∧ R' G v' ∧ R'' G v'' ∧ R3 G v3
  | [], h => h.elim
  | v :: vs, h => (allR3 h.2).elim fun v' e => e.elim fun v'' e => e.elim fun v3 e => ⟨v, v', v'', v3, by rw [e.1], h.1, e.2⟩
theorem atI_nn {α : Type} {xs : List α} {i : Int} {x : α} (h0 : 0 ≤ i) (h : xs[i.toNat]? = some x) : atI xs i = some x := by
  have hi := (List.getElem?_eq_some_iff.mp h).1
  have e : i = (i.toNat : Int) := (Int.toNat_of_nonneg h0).symm
  rw [e]
  exact atI_nat h
end
section
variable {P : Program} {w : World} {K : PySem.W.Frag} {mg : Str → Option Value} {base : Heap} {T : Tbs} {f f1 f2 f3 f4 f5 f6 f7 f8 c Pt : Addr} {fd d1 d2 d3 d4 d5 d6 d7 d8 : FuncData}
def spDraw (T : Tbs) (K : PySem.W.Frag) : Sp := fun vs H Q E => ∃ (ns : List Int) (k : Int), (ns.length ≤ 1000 ∧ 0 ≤ k ∧ k ≤ 1000) ∧ Prom T [IsS K ns, IsE k] (IsE (Sw.drw ns k)) vs H Q E
theorem ok_draw (F : Fun K "_law_draw" "_law_draw" sDraw f fd) (B : Bi mg) (bs : mg "sum" = none) : FnOk P w K mg base CX0 1 f fd ["_law_script", "_law_k"] (spDraw T K) := by
  refine F.ok scDraw (fun vs H Q E h => ?_) (fun cdv A outer s H vs Q E hr h => ?_)
  · obtain ⟨ns, k, _, G, kk, w, _⟩ := h
    exact allR_len w
  · obtain ⟨ns, k, hb0, G, kk, w, q⟩ := h
    obtain ⟨hl, h0, h1⟩ := hb0
    obtain ⟨v, v', rfl, w, w'⟩ := allR2 w
    · refine ⟨_, pss_cons (ps_if (PW.pt (pw_and (pt_cmpR (op_neD hr.units) (pv 0) (pe_lst pa_nil) (nomark _)) (pw_and1 (pt_cmpR op_eq (pe_op op_mod (pe_ix ix_list (pv 0) pe_int (fun _ _ => rfl)) pe_int) pe_int (nomark _)))))
          (pss_cons (ps_set (i := 2) scDraw.nd rfl (.inl rfl) (pe_op op_fdiv (pe_ix ix_list (pv 0) (pe_op op_mod (pv 1) (pe_callB call_len_seq (by rfl) B.len PySem.boot_len (pa_cons (pv 0) pa_nil))) (fun _ _ => rfl)) pe_int))
          (pss_cons (ps_for PassesOwn.never rfl (pi_range1 (by rfl) B.range (pa_cons (pe_op op_mod (pe_op op_fdiv (pv 1) (pe_callB call_len_seq (by rfl) B.len PySem.boot_len (pa_cons (pv 0) pa_nil))) pe_int) pa_nil)) (pg_name (i := 3) scDraw.nd rfl (.inl rfl))
            (pss_one (ps_set (i := 2) scDraw.nd rfl (.inl rfl) (pe_op op_fdiv (pv 2) pe_int))))
          (pss_one (ps_ret (pe_op op_mod (pv 2) pe_int))))) pss_nil)
        (pss_cons (ps_set (i := 2) scDraw.nd rfl (.inl rfl) pe_int)
        (pss_cons (ps_if (pt_cmpR (op_neD hr.units) (pv 0) (pe_lst pa_nil) (nomark _)) (pss_one (ps_set (i := 2) scDraw.nd rfl (.inl rfl) (pe_op op_add (pe_op op_mul pe_int (pe_callB (cr_sum rfl) (by rfl) bs (by decide +kernel) (pa_cons (pv 0) pa_nil)))
            (pe_ix ix_list (pv 0) (pe_op op_mod (pv 1) (pe_callB call_len_seq (by rfl) B.len PySem.boot_len (pa_cons (pv 0) pa_nil))) (fun _ _ => rfl))))) pss_nil)
        (pss_cons (ps_set (i := 4) scDraw.nd rfl (.inl rfl) (pe_op op_add (pe_op op_add (pe_op op_mod (pv 2) pe_int) (pe_op op_mul pe_int (pv 1))) pe_int))
        (pss_one (ps_ret (pe_op op_fdiv (pe_op op_mod (pe_op op_mul (pe_op op_mod (pe_op op_mul (pv 4) (pv 4)) pe_int) (pv 4)) pe_int) pe_int)))))), ?_⟩
      -- a cell of the script that stands
      have cel : ∀ {G' : Hp} {σ : L2.St}, ns ≠ [] → Ex G G' → σ[0]? = some (some v) → σ[1]? = some (some v') →
          Ev T (tOp (rIxL K) (tVar 0) (tOp (rI (fun _ j => 0 < j) fun i j => .int (i % j)) (tVar 1) (tCB (fun xs H Q => ∃ p ys, xs = [V.ref p] ∧ (SqL K H p ys ∨ SqT K H p ys) ∧ Q (.int ys.length) H) (tCons (tVar 0) tNil)))) σ G' (Sw.celAt ns k) := fun ne e e0 e1 => by
        have hl2 : 0 < ns.length := List.length_pos_iff.mpr ne
        have a1 := Int.emod_lt_of_pos k (b := (ns.length : Int)) (by omega)
        have a2 := Int.emod_nonneg k (b := (ns.length : Int)) (by omega)
        have hd : (k % (ns.length : Int)).toNat < ns.length := by omega
        refine ev_ixS (ns := ns) (ev_var e0 (isS_ex.ex e w)) (ev_mod (ev_var e1 (isD_ex.ex e w')) (ev_lenS (ev_var e0 (isS_ex.ex e w))) (by omega)) (atI_nn a2 ?_)
        unfold Sw.celAt
        rw [List.getElem?_eq_getElem hd] <;> rfl
      by_cases ne : ns = []
      · -- no cell at all
        have b0 : (!decide (ns = [])) = false := by rw [decide_eq_true ne]; rfl
        refine q_skip kk ((et_and (et_test (ev_neS (ev_var rfl w) (EvN.ev (en_lst ea_nil (by decide))))) (b := false) fun z => ?_).to ?_) fun G1 H1 n1 => ?_
        · rw [b0] at z
          cases z
        · rw [b0]
          rfl
        refine q_asg n1.kn (ev_int (i := 0)) fun v2 G2 H2 n2 r2 => ?_
        have e2 := n1.ex.trans n2.ex
        refine q_skip n2.kn ((et_test (ev_neS (ev_var (i := 0) rfl (isS_ex.ex e2 w)) (EvN.ev (en_lst ea_nil (by decide))))).to b0) fun G3 H3 n3 => ?_
        have e3 := e2.trans n3.ex
        have num := ev_add (T := T) (G := G3) (σ := [some v, some v', some v2, none, none]) (ev_add (ev_mod (ev_var (i := 2) rfl (isD_ex.ex n3.ex r2)) (ev_int (i := 1000000007))) (ev_mul (ev_int (i := 7919)) (ev_var (i := 1) rfl (isD_ex.ex e3 w')) (cmul_l (by decide) (by decide)))) (ev_int (i := 13))
        refine q_asg n3.kn num fun v4 G4 H4 n4 r4 => ?_
        obtain ⟨m0, m1⟩ := Sw.mixed_b (c := 0) h0 h1
        refine s_ret n4.kn ((ev_fdiv (ev_mod (ev_mul (ev_mod (ev_mul (ev_var (i := 4) rfl r4) (ev_var (i := 4) rfl r4) (cmul_l (by omega) (by omega))) ev_int) (ev_var (i := 4) rfl r4) (cmul_r (by omega) (by omega))) ev_int) ev_int).to ?_) fun v5 G5 H5 n5 r5 => q v5 G5 H5 ((((n1.trans n2).trans n3).trans n4).trans n5) r5
        unfold Sw.drw Sw.mixed
        rw [b0, if_neg (by simp), if_neg (by simp)]
      · have b0 : (!decide (ns = [])) = true := by rw [decide_eq_false ne]; rfl
        have hl2 : 0 < ns.length := List.length_pos_iff.mpr ne
        have first : atI ns 0 = some ((ns[0]?).getD 0) := atI_nn (by decide) (by
          show ns[0]? = _
          rw [List.getElem?_eq_getElem hl2] <;> rfl)
        refine q_if kk (et_and (et_test (ev_neS (ev_var rfl w) (EvN.ev (en_lst ea_nil (by decide))))) fun _ => et_test (ev_eqI (ev_mod (ev_ixS (ev_var rfl w) (ev_int (i := 0)) first) (ev_int (i := 2))) (ev_int (i := 0)))) (fun hb G1 H1 n1 => ?_) fun hb G1 H1 n1 => ?_
        · -- by its own digits
          refine q_asg n1.kn (ev_fdiv (cel ne n1.ex rfl rfl) (ev_int (i := 2))) fun v2 G2 H2 n2 r2 => ?_
          have e2 := n1.ex.trans n2.ex
          have eu := dq_int r2
          subst eu
          have tb := Int.emod_lt_of_pos (k / (ns.length : Int)) (b := 60) (by decide)
          have tb0 := Int.emod_nonneg (k / (ns.length : Int)) (b := 60) (by decide)
          refine q_for n2.kn (srcs_rng1 (ev_mod (ev_fdiv (ev_var (i := 1) rfl (isD_ex.ex e2 w')) (ev_lenS (ev_var (i := 0) rfl (isS_ex.ex e2 w))) (by omega) (by omega)) (ev_int (i := 60))) (by omega) (by omega)) (fun i σ' G' H' => ∃ y3, σ' = [some v, some v', some (.int (Sw.dvs i (Sw.celAt ns k / 2))), y3, none] ∧ Nx T G H G' H')
            (fun G3 H3 n3 => ⟨none, rfl, (n1.trans n2).trans n3⟩) (fun G3 i x vx σ' G' H' e3 hx e' k' rx hw => ?_) fun σ' G' H' e' k' hw => ?_
          · obtain ⟨y3, rfl, n4⟩ := hw
            refine s_asg (i := 2) k' (ev_fdiv (ev_var (i := 2) rfl (Dq.int _)) (ev_int (i := 1000000))) fun v5 G5 H5 n5 r5 => ?_
            have eu := dq_int r5
            subst eu
            exact ⟨G5, e'.trans n5.ex, n5.kn, some vx, rfl, n4.trans n5⟩
          · obtain ⟨y3, rfl, n4⟩ := hw
            refine s_ret n4.kn ((ev_mod (ev_var (i := 2) rfl (Dq.int _)) (ev_int (i := 1000000))).to ?_) fun v5 G5 H5 n5 r5 => q v5 G5 H5 (n4.trans n5) r5
            unfold Sw.drw
            rw [if_pos hb, Sw.len_rngI, Int.sub_zero]
        · -- mixed
          show tSeq _ _ _ _ _
          refine q_asg n1.kn (ev_int (i := 0)) fun v2 G2 H2 n2 r2 => ?_
          have e2 := n1.ex.trans n2.ex
          refine q_if n2.kn (et_test (ev_neS (ev_var (i := 0) rfl (isS_ex.ex e2 w)) (EvN.ev (en_lst ea_nil (by decide))))) (fun _ G3 H3 n3 => ?_) fun hb2 => ?_
          · have e3 := e2.trans n3.ex
            refine s_asg (i := 2) n3.kn (ev_add (ev_mul (ev_int (i := 31)) (ev_sumS (ev_var (i := 0) rfl (isS_ex.ex e3 w))) (cmul_l (by decide) (by decide))) (cel ne e3 rfl rfl)) fun v3 G4 H4 n4 r4 => ?_
            have e4 := e3.trans n4.ex
            show tSeq _ _ _ _ _
            have num := ev_add (T := T) (G := G4) (σ := [some v, some v', some v3, none, none]) (ev_add (ev_mod (ev_var (i := 2) rfl r4) (ev_int (i := 1000000007))) (ev_mul (ev_int (i := 7919)) (ev_var (i := 1) rfl (isD_ex.ex e4 w')) (cmul_l (by decide) (by decide)))) (ev_int (i := 13))
            refine q_asg n4.kn num fun v4 G5 H5 n5 r5 => ?_
            obtain ⟨m0, m1⟩ := Sw.mixed_b (c := 31 * ns.sum + Sw.celAt ns k) h0 h1
            refine s_ret n5.kn ((ev_fdiv (ev_mod (ev_mul (ev_mod (ev_mul (ev_var (i := 4) rfl r5) (ev_var (i := 4) rfl r5) (cmul_l (by omega) (by omega))) ev_int) (ev_var (i := 4) rfl r5) (cmul_r (by omega) (by omega))) ev_int) ev_int).to ?_) fun v5 G6 H6 n6 r6 => q v5 G6 H6 (((((n1.trans n2).trans n3).trans n4).trans n5).trans n6) r6
            unfold Sw.drw Sw.mixed
            rw [if_neg (by rw [hb]; decide), if_pos b0]
          · rw [b0] at hb2
            cases hb2
end
end Pg

set_option Elab.async false
set_option linter.all false
set_option maxRecDepth 100000
namespace Pg
open PySem PySem.Spec PySem.Calls PyProof.Rows L2 LamX NdefX Ed
open Ed.Enc (enc)
theorem map_erase {α β : Type} {f : α → β} : ∀ {l : List α} {i : Nat}, (l.map f).eraseIdx i = (l.eraseIdx i).map f
  | [], _ => rfl
  | _ :: _, 0 => rfl
  | x :: xs, i + 1 => congrArg (f x :: ·) (map_erase (l := xs) (i := i))
section
variable {P : Program} {w : World} {K : PySem.W.Frag} {mg : Str → Option Value} {base : Heap} {T : Tbs} {f f1 f2 f3 f4 f5 f6 f7 f8 c Pt : Addr} {fd d1 d2 d3 d4 d5 d6 d7 d8 : FuncData}
def spLRow (T : Tbs) (K : PySem.W.Frag) : Sp := fun vs H Q E => ∃ (ns : List Int) (k : Int) (n : Nat), (ns.length ≤ 1000 ∧ 0 ≤ k ∧ k ≤ 900 ∧ n ≤ 12) ∧ PromN T [IsS K ns, IsE k, IsE (n : Int)] (Sw.lrow ns k n) vs H Q E
theorem ok_lrow (F : Fun K "_law_row" "_law_row" sLRow f fd) (B : Bi mg) (D1 : Df P w K mg base "_law_draw" 1 f1 d1 ["_law_script", "_law_k"] (spDraw T K)) : FnOk P w K mg base CX0 2 f fd ["_law_script", "_law_k", "_law_many"] (spLRow T K) := by
  refine F.ok scLRow (fun vs H Q E h => ?_) (fun cdv A outer s H vs Q E hr h => ?_)
  · obtain ⟨ns, k, n, _, G, kk, w, _⟩ := h
    exact allR_len w
  · obtain ⟨ns, k, n, ⟨hl, h0, h1, h2⟩, G, kk, w, q⟩ := h
    obtain ⟨v, v', v'', rfl, w, w', w''⟩ := allR3 w
    refine ⟨_, pss_cons (ps_set (i := 3) scLRow.nd rfl (.inl rfl) (pe_listRg rfl (by rfl) B.list (prg_2 (by rfl) B.range pe_int (pe_op op_add (pv 2) pe_int))))
      (pss_cons (ps_set (i := 4) scLRow.nd rfl (.inl rfl) (pe_lst pa_nil))
      (pss_cons (ps_for PassesOwn.never rfl (pi_range1 (by rfl) B.range (pa_cons (pv 2) pa_nil)) (pg_name (i := 5) scLRow.nd rfl (.inl rfl))
        (pss_one (ps_expr (pe_bm PySem.F.plainAttrs_list PySem.F.slot_list_append PySem.F.type_list_append mt_append (pv 4) (pa_cons (pe_bm PySem.F.plainAttrs_list PySem.F.slot_list_pop PySem.F.type_list_pop mt_popAt (pv 3)
          (pa_cons (pe_op op_mod (pe_call D1.ok hr (by rfl) D1.g D1.kp D1.bd .nil pass0 (pa_cons (pv 0) (pa_cons (pe_op op_add (pv 1) (pv 5)) pa_nil))) (pe_callB call_len_seq (by rfl) B.len PySem.boot_len (pa_cons (pv 3) pa_nil))) pa_nil)) pa_nil)))))
      (pss_one (ps_ret (pv 4))))), ?_⟩
    refine q_asgN kk (en_listRg ev_int (ev_add (ev_var rfl w'') ev_int) (by omega)) fun l us G1 H1 n1 l0 hG1 hl1 r1 => ?_
    have eu := da_ints_eq r1
    subst eu
    refine q_asgN n1.kn (en_lst (α := Int) (xs := []) ea_nil (by decide)) fun p us G2 H2 n2 p0 hG2 hp2 r2 => ?_
    have eu := da_ints_eq r2
    subst eu
    have n02 := n1.trans n2
    obtain ⟨hGl, hHl⟩ := stays n2 hG1 hl1 nt_lst nu_lst
    have ne : p ≠ l := fun z => by
      subst z
      rw [hl1] at p0
      cases p0
    have p00 := n1.dom p p0
    refine q_for n2.kn (srcs_rng1 (ev_var (i := 2) rfl (isD_ex.ex n02.ex w'')) (by omega) (by omega)) (fun i σ' G' H' => ∃ y5, σ' = [some v, some v', some v'', some (.ref l), some (.ref p), y5] ∧ Nx T G H G' H' ∧ G' l = none ∧ G' p = none ∧ H' l = some (.lst ((Sw.lrS ns k n i).1.map V.int)) ∧ H' p = some (.lst ((Sw.lrS ns k n i).2.map V.int)))
      (fun G3 H3 n3 => ?_) (fun G3 i x vx σ' G' H' e3 hx e' k' rx hw => ?_) fun σ' G' H' e' k' hw => ?_
    · obtain ⟨a1, a2⟩ := stays n3 hGl hHl nt_lst nu_lst
      obtain ⟨b1, b2⟩ := stays n3 hG2 hp2 nt_lst nu_lst
      exact ⟨none, rfl, n02.trans n3, a1, b1, a2, b2⟩
    · obtain ⟨y5, rfl, n4, a1, b1, a2, b2⟩ := hw
      have hi : i < n := by
        have z := (List.getElem?_eq_some_iff.mp hx).1
        rw [Sw.len_rngI] at z
        omega
      have ex : x = (i : Int) := by
        have z := rngI_at (i := 0) (j := (n : Int)) (k := i) (by omega)
        rw [hx] at z
        have := Option.some.inj z
        omega
      subst ex
      obtain ⟨c1, c2, _⟩ := Sw.lrS_ok ns k n i (by omega)
      have kl : IsE (Sw.lrS ns k n i).1 (upd G' l (.lst ((Sw.lrS ns k n i).1.map V.int))) (.ref l) := Dq.lst upd_same (da_ints _)
      have eG := n4.ex.trans (Ex.new (o := HO.lst ((Sw.lrS ns k n i).1.map V.int)) a1)
      have hd : (Sw.drw ns (k + (i : Int)) % ((Sw.lrS ns k n i).1.length : Int)).toNat < (Sw.lrS ns k n i).1.length := by
        have a1 := Int.emod_lt_of_pos (Sw.drw ns (k + (i : Int))) (b := ((Sw.lrS ns k n i).1.length : Int)) (by omega)
        have a2 := Int.emod_nonneg (Sw.drw ns (k + (i : Int))) (b := ((Sw.lrS ns k n i).1.length : Int)) (by omega)
        omega
      refine s_appPop (i := 4) (j := 3) (m := Sw.drw ns (k + (i : Int)) % ((Sw.lrS ns k n i).1.length : Int)) (y := .int (((Sw.lrS ns k n i).1[(Sw.drw ns (k + (i : Int)) % ((Sw.lrS ns k n i).1.length : Int)).toNat]?).getD 0)) n4.kn rfl rfl b1 a1 b2 a2 ne (by rw [List.length_map]; omega) (by rw [List.length_map]; omega)
        (ev_mod (ev_call (ea2 isS_ex isD_ex (ev_var (i := 0) rfl (isS_ex.ex eG w)) (ev_add (ev_var (i := 1) rfl (isD_ex.ex eG w')) (ev_var (i := 5) rfl (isD_ex.ex (Ex.new a1) rx)))) fun vs H Q E h => ⟨ns, k + (i : Int), ⟨hl, by omega, by omega⟩, h⟩) (ev_len (ev_var (i := 3) rfl kl)) (by omega))
        (Int.emod_nonneg _ (by omega)) (by rw [List.getElem?_map, List.getElem?_eq_getElem hd] <;> rfl) fun G5 H5 n5 g1 g2 e1 e2 => ?_
      have m1 := (n4.trans n5).mut (o' := HO.lst (((Sw.lrS ns k n i).1.map V.int).eraseIdx (Sw.drw ns (k + (i : Int)) % ((Sw.lrS ns k n i).1.length : Int)).toNat)) l0 g2 e2 True.intro
      have e3' : (upd H5 l (HO.lst (((Sw.lrS ns k n i).1.map V.int).eraseIdx (Sw.drw ns (k + (i : Int)) % ((Sw.lrS ns k n i).1.length : Int)).toNat))) p = some (.lst ((Sw.lrS ns k n i).2.map V.int)) := by
        rw [upd_ne ne]
        exact e1
      have m2 := m1.mut (o' := HO.lst ((Sw.lrS ns k n i).2.map V.int ++ [.int (((Sw.lrS ns k n i).1[(Sw.drw ns (k + (i : Int)) % ((Sw.lrS ns k n i).1.length : Int)).toNat]?).getD 0)])) p00 g1 e3' True.intro
      refine ⟨G5, e'.trans n5.ex, m2.kn, some vx, rfl, m2, g2, g1, ?_, ?_⟩
      · rw [upd_ne (Ne.symm ne), upd_same]
        show _ = some (HO.lst (((Sw.lrS ns k n i).1.eraseIdx _).map V.int))
        rw [map_erase]
      · rw [upd_same]
        show _ = some (HO.lst (((Sw.lrS ns k n i).2 ++ [_]).map V.int))
        rw [List.map_append]
        rfl
    · obtain ⟨y5, rfl, n4, a1, b1, a2, b2⟩ := hw
      have ln : (Sw.rngI 0 (n : Int)).length = n := by
        rw [Sw.len_rngI]
        omega
      rw [ln] at b2
      exact ⟨.ref p, rfl, q p _ G' H' n4 p00 b1 b2 (da_ints _)⟩
end
end Pg

set_option Elab.async false
set_option linter.all false
set_option maxRecDepth 100000
namespace Pg
open PySem PySem.Spec PySem.Calls PyProof.Rows L2 LamX NdefX Ed
open Ed.Enc (enc)
theorem cut_to {α : Type} {xs : List α} {i : Nat} (h : i ≤ xs.length) : cutA xs none (some (i : Int)) = xs.take i := by
  unfold cutA
  rw [HT.sIx_nat, HT.sIx_none, Nat.min_eq_left h]
  simp
section
variable {P : Program} {w : World} {K : PySem.W.Frag} {mg : Str → Option Value} {base : Heap} {T : Tbs} {f f1 f2 f3 f4 f5 f6 f7 f8 c Pt : Addr} {fd d1 d2 d3 d4 d5 d6 d7 d8 : FuncData}
def spLUp (T : Tbs) (K : PySem.W.Frag) : Sp := fun vs H Q E => ∃ (ns : List Int) (k : Int) (n : Nat) (r : List Int) (m : Nat), (ns.length ≤ 1000 ∧ 0 ≤ k ∧ k ≤ 900 ∧ n ≤ 12 ∧ Sw.Row n r ∧ m ≤ 60) ∧ Prom T [IsS K ns, IsE k, IsE r, IsE (m : Int)] (IsE (Sw.lup ns k r m)) vs H Q E
theorem ok_lup (F : Fun K "_law_up" "_law_up" sLUp f fd) (B : Bi mg) (D1 : Df P w K mg base "_law_draw" 1 f1 d1 ["_law_script", "_law_k"] (spDraw T K)) : FnOk P w K mg base CX0 2 f fd ["_law_script", "_law_k", "_law_row_here", "_law_steps"] (spLUp T K) := by
  refine F.ok scLUp (fun vs H Q E h => ?_) (fun cdv A outer s H vs Q E hr h => ?_)
  · obtain ⟨ns, k, n, r, m, _, G, kk, w, _⟩ := h
    exact allR_len w
  · obtain ⟨ns, k, n, r, m, ⟨hl, h0, h1, h2, R, h3⟩, G, kk, w, q⟩ := h
    obtain ⟨v, v', v'', v3, rfl, w, w', w'', w3⟩ := allR4 w
    refine ⟨_, pss_cons (ps_set (i := 4) scLUp.nd rfl (.inr rfl) (pe_callTy call_list_of (by rfl) B.list (by decide +kernel) (pa_cons (pv 2) pa_nil)))
      (pss_cons (ps_for PassesOwn.never rfl (pi_range1 (by rfl) B.range (pa_cons (pv 3) pa_nil)) (pg_name (i := 5) scLUp.nd rfl (.inl rfl))
        (pss_cons (ps_setLc (i := 7) (own := [("_law_at", 6)]) (g := gName 6) rfl scLUp.nd rfl rfl (sw_true rfl rfl rfl (by decide +kernel)) (pi_range1 (by rfl) B.range (pa_cons (pe_op op_sub (pe_callB call_len_seq (by rfl) B.len PySem.boot_len (pa_cons (pv 4) pa_nil)) pe_int) pa_nil))
          (blkOk_by (own := [("_law_at", 6)]) (N := ["_law_script", "_law_k", "_law_row_here", "_law_steps", "_law_here", "_law_j", "_law_at", "_law_some"]) (sc := defScope sLUp) (by decide +kernel)) (fun _ _ _ _ _ => pg_name (i := 6) scLUp.nd rfl (.inl rfl))
          (fun _ _ _ _ _ => pts_one (pt_cmpR op_lt (pe_ix (ix_listK (K := K) rfl) (pv 4) (pv 6) (fun _ _ => rfl)) (pe_ix (ix_listK (K := K) rfl) (pv 4) (pe_op op_add (pv 6) pe_int) (fun _ _ => rfl)) (nomark _))) (fun _ _ _ _ _ => pv 6))
        (pss_one (ps_if (pt_cmpR (op_neD hr.units) (pv 7) (pe_lst pa_nil) (nomark _))
          (pss_cons (ps_set (i := 6) scLUp.nd rfl (.inl rfl) (pe_ix ix_list (pv 7) (pe_op op_mod (pe_call D1.ok hr (by rfl) D1.g D1.kp D1.bd .nil pass0 (pa_cons (pv 0) (pa_cons (pe_op op_add (pv 1) (pv 5)) pa_nil))) (pe_callB call_len_seq (by rfl) B.len PySem.boot_len (pa_cons (pv 7) pa_nil))) (fun _ _ => rfl)))
          (pss_one (ps_set (i := 4) scLUp.nd rfl (.inr rfl) (pe_op op_cat (pe_op op_cat (pe_slice sl_list (pv 4) po_none (po_some (pv 6))) (pe_lst (pa_cons (pe_ix ix_list (pv 4) (pe_op op_add (pv 6) pe_int) (fun _ _ => rfl)) (pa_cons (pe_ix ix_list (pv 4) (pv 6) (fun _ _ => rfl)) pa_nil))))
            (pe_slice sl_list (pv 4) (po_some (pe_op op_add (pv 6) pe_int)) po_none))))) pss_nil))))
      (pss_one (ps_ret (pv 4)))), ?_⟩
    refine q_asg kk (EvN.ev (en_listOf (ev_var (i := 2) rfl w''))) fun vh G1 H1 n1 r1 => ?_
    refine q_for n1.kn (srcs_rng1 (ev_var (i := 3) rfl (isD_ex.ex n1.ex w3)) (by omega) (by omega)) (fun i σ' G' H' => ∃ vh y5 y6 y7, σ' = [some v, some v', some v'', some v3, some vh, y5, y6, y7] ∧ Nx T G H G' H' ∧ IsE (Sw.lup ns k r i) G' vh)
      (fun G3 H3 n3 => ⟨vh, none, none, none, rfl, n1.trans n3, isD_ex.ex n3.ex r1⟩) (fun G3 i x vx σ' G' H' e3 hx e' k' rx hw => ?_) fun σ' G' H' e' k' hw => ?_
    · obtain ⟨vh, y5, y6, y7, rfl, n4, r4⟩ := hw
      have hi : i < m := by
        have z := (List.getElem?_eq_some_iff.mp hx).1
        rw [Sw.len_rngI] at z
        omega
      have ex : x = (i : Int) := by
        have z := rngI_at (i := 0) (j := (m : Int)) (k := i) (by omega)
        rw [hx] at z
        have := Option.some.inj z
        omega
      subst ex
      have RR := Sw.lup_row (ns := ns) (k := k) R i
      have eS : Sw.lup ns k r (i + 1) = Sw.upAt (Sw.lup ns k r i) (Sw.drw ns (k + (i : Int))) := rfl
      rw [eS]
      generalize Sw.lup ns k r i = hre at RR r4 eS
      have hlen := RR.len
      have at_ : ∀ {σ : L2.St} {G' : Hp} {te : TE} {a : Int}, σ[4]? = some (some vh) → IsE hre G' vh → Ev T te σ G' a → 0 ≤ a → a < (n : Int) → Ev T (tOp (rIxL K) (tVar 4) te) σ G' ((hre[a.toNat]?).getD 0) := fun hs rh ha a0 a1 =>
        ev_ix (ev_var hs rh) ha (atI_nn a0 (by rw [List.getElem?_eq_getElem (by omega)] <;> rfl))
      refine q_asg n4.kn (EvN.ev (EvN.to (en_lc (xs := Sw.rngI 0 ((hre.length : Int) - 1)) (fun a : Int => decide ((hre[a.toNat]?).getD 0 < (hre[(a + 1).toNat]?).getD 0)) (fun a => a) (fun a G' σ2 => ∃ v6, σ2 = [some v, some v', some v'', some v3, some vh, some vx, some v6, y7] ∧ IsE a G' v6)
        (src_rng1 (ev_sub (ev_len (ev_var (i := 4) rfl r4)) ev_int) (by omega) (by omega)) (by rw [Sw.len_rngI]; omega) (fun a _ G' e => tgt_name) (fun a G' σ2 z => ?_) (fun a ha G' σ2 e z => ?_) (fun a ha _ G' σ2 e z => ?_)) (ys := Sw.upsOf hre) (by unfold Sw.upsOf; rw [List.map_id'])))
        fun v7 G5 H5 n5 r5 => ?_
      · obtain ⟨v6, rfl, _⟩ := z
        rfl
      · obtain ⟨v6, rfl, r6⟩ := z
        have hm := Sw.mem_rngI.mp ha
        exact et_test (ev_b0 (f := fun i j => decide (i < j)) (at_ rfl (isD_ex.ex e r4) (ev_var (i := 6) rfl r6) (by omega) (by omega)) (at_ rfl (isD_ex.ex e r4) (ev_add (ev_var (i := 6) rfl r6) ev_int) (by omega) (by omega)))
      · obtain ⟨v6, rfl, r6⟩ := z
        exact ev_var (i := 6) rfl r6
      have rh5 := isD_ex.ex n5.ex r4
      refine s_if n5.kn (et_test (ev_neD (ev_var (i := 7) rfl r5) (EvN.ev (en_lst (α := Int) (xs := []) ea_nil (by decide))))) (fun hb G6 H6 n6 => ?_) fun hb G6 H6 n6 => ?_
      · have hne : ¬ Sw.upsOf hre = [] := fun z => by
          rw [decide_eq_true z] at hb
          cases hb
        obtain ⟨a, ha, a0, a1⟩ := Sw.ups_at (d := Sw.drw ns (k + (i : Int))) hne
        have hlp : 0 < (Sw.upsOf hre).length := List.length_pos_iff.mpr hne
        have e56 := n4.ex.trans (n5.ex.trans n6.ex)
        refine q_asg n6.kn (ev_ix (ev_var (i := 7) rfl (isD_ex.ex n6.ex r5)) (ev_mod (ev_call (ea2 isS_ex isD_ex (ev_var (i := 0) rfl (isS_ex.ex e56 w)) (ev_add (ev_var (i := 1) rfl (isD_ex.ex e56 w')) (ev_var (i := 5) rfl (isD_ex.ex (n5.ex.trans n6.ex) rx)))) fun vs H Q E h => ⟨ns, k + (i : Int), ⟨hl, by omega, by omega⟩, h⟩) (ev_len (ev_var (i := 7) rfl (isD_ex.ex n6.ex r5))) (by omega))
          (atI_nn (Int.emod_nonneg _ (by omega)) ha)) fun v6 G7 H7 n7 r7 => ?_
        have rh7 := isD_ex.ex (n6.ex.trans n7.ex) rh5
        have va : ∀ {σ : L2.St}, σ[6]? = some (some v6) → Ev T (tVar 6) σ G7 a := fun h => ev_var h r7
        have ea : a = ((a.toNat : Nat) : Int) := by omega
        refine s_asg (i := 4) (R := IsE (Sw.upAt hre (Sw.drw ns (k + (i : Int))))) n7.kn (Ev.to (EvN.ev (en_cat (EvN.ev (en_cat (EvN.ev (en_sl (K := K) (ev_var (i := 4) rfl rh7) eo_none (eo_some (va rfl)))) (EvN.ev (en_lst (xs := [(hre[(a + 1).toNat]?).getD 0, (hre[a.toNat]?).getD 0]) (ea2 isD_ex isD_ex (at_ rfl rh7 (ev_add (va rfl) ev_int) (by omega) (by omega)) (at_ rfl rh7 (va rfl) (by omega) (by omega))) (by show 2 ≤ 1000; decide))) ?_))
          (EvN.ev (en_sl (K := K) (ev_var (i := 4) rfl rh7) (eo_some (ev_add (va rfl) ev_int)) eo_none)) ?_)) ?_) fun v8 G8 H8 n8 r8 => ?_
        rotate_left 3
        · exact ⟨G8, ((e'.trans n5.ex).trans n6.ex).trans (n7.ex.trans n8.ex), n8.kn, v8, some vx, some v6, some v7, rfl, ((n4.trans n5).trans n6).trans (n7.trans n8), r8⟩
        · rw [ea, cut_to (by omega), List.length_take]
          show _ + 2 ≤ _
          omega
        · have e2 : a + 2 = ((a.toNat + 2 : Nat) : Int) := by omega
          rw [ea, cut_to (by omega), ← ea, e2, cut_from, List.length_append, List.length_take, List.length_drop]
          show _ + 2 + _ ≤ _
          omega
        · unfold Sw.upAt
          rw [if_pos hb, ha]
          have e2 : a + 2 = ((a.toNat + 2 : Nat) : Int) := by omega
          have c1 : cutA hre none (some a) = hre.take a.toNat := by
            rw [ea, cut_to (by omega), ← ea]
          have c2 : cutA hre (some (a + 2)) none = hre.drop (a + 2).toNat := by
            rw [e2, cut_from]
            rfl
          rw [c1, c2]
          rfl
      · have eu : Sw.upAt hre (Sw.drw ns (k + (i : Int))) = hre := by
          unfold Sw.upAt
          rw [if_neg (by rw [hb]; decide)]
        rw [eu]
        exact ⟨G6, (e'.trans n5.ex).trans n6.ex, n6.kn, vh, some vx, y6, some v7, rfl, (n4.trans n5).trans n6, isD_ex.ex n6.ex rh5⟩
    · obtain ⟨vh, y5, y6, y7, rfl, n4, r4⟩ := hw
      have ln : (Sw.rngI 0 (m : Int)).length = m := by
        rw [Sw.len_rngI]
        omega
      rw [ln] at r4
      exact ⟨vh, rfl, q vh G' H' n4 r4⟩
end
end Pg

set_option Elab.async false
set_option linter.all false
set_option maxRecDepth 100000
namespace Pg
open PySem PySem.Spec PySem.Calls PyProof.Rows L2 LamX NdefX Ed
open Ed.Enc (enc)
section
variable {T : Tbs} {K : PySem.W.Frag} {σ : L2.St} {G G2 H : Hp} {ta tb te tl : TE} {t u : TT} {R R' R'' : Rp} {D : Ends} {tz tu tw : TS}
theorem set_same {σ : L2.St} {i : Nat} {x : Option V} (h : σ[i]? = some x) : σ.set i x = σ := by
  refine List.ext_getElem? fun j => ?_
  by_cases e : i = j
  · subst e
    rw [List.getElem?_set_self (List.getElem?_eq_some_iff.mp h).1, h]
  · rw [List.getElem?_set_ne e]
/-- if t: x = e -/
theorem q_ifAsg {i : Nat} {b : Bool} (m : Mono R) (k : Kn T G H) (h : EvT T t σ G b) (h1 : b = true → EvR T te σ G R) (h2 : b = false → ∃ v0, σ[i]? = some (some v0) ∧ R G v0)
    (c : ∀ v G2 H2, Nx T G H G2 H2 → R G2 v → tz D (σ.set i (some v)) H2) : tSeq (tIfS t (tAsg te (gName i)) tNext) tz D σ H := h H k _ fun G2 H2 n => by
  cases b with
  | true => exact iteT (EvR.mono m (h1 rfl) n.ex H2 n.kn _ fun v G3 H3 n3 r3 => c v G3 H3 (n.trans n3) r3)
  | false =>
    obtain ⟨v0, e, r⟩ := h2 rfl
    refine iteF ?_
    have z := c v0 G2 H2 n (m.ex n.ex r)
    rw [set_same e] at z
    exact z
theorem modB (a : Int) {b : Int} (h : 0 < b) : 0 ≤ a % b ∧ a % b < b := ⟨Int.emod_nonneg _ (by omega), Int.emod_lt_of_pos _ h⟩
theorem Ev.ite {α : Type} [Enc α] {b : Bool} {x y : α} (h : b = true → Ev T te σ G x) : b = true → Ev T te σ G (if b = true then x else y) := fun e => by
  rw [if_pos e]
  exact h e
end
section
variable {P : Program} {w : World} {K : PySem.W.Frag} {mg : Str → Option Value} {base : Heap} {T : Tbs} {f f1 f2 f3 f4 f5 f6 f7 f8 c Pt : Addr} {fd d1 d2 d3 d4 d5 d6 d7 d8 : FuncData}
def spLTwo (T : Tbs) (K : PySem.W.Frag) : Sp := fun vs H Q E => ∃ (ns : List Int) (k m : Int), (ns.length ≤ 1000 ∧ 0 ≤ k ∧ k ≤ 800 ∧ 1 ≤ m ∧ m ≤ 12) ∧ Prom T [IsS K ns, IsE k, IsE m] (IsE (Sw.gone ns k m, Sw.gother ns k m)) vs H Q E
theorem ok_ltwo (F : Fun K "_law_two" "_law_two" sLTwo f fd) (B : Bi mg) (D1 : Df P w K mg base "_law_draw" 1 f1 d1 ["_law_script", "_law_k"] (spDraw T K)) (D2 : Df P w K mg base "_law_row" 2 f2 d2 ["_law_script", "_law_k", "_law_many"] (spLRow T K))
    (D3 : Df P w K mg base "_law_up" 2 f3 d3 ["_law_script", "_law_k", "_law_row_here", "_law_steps"] (spLUp T K)) : FnOk P w K mg base CX0 3 f fd ["_law_script", "_law_k", "_law_most"] (spLTwo T K) := by
  refine F.ok scLTwo (fun vs H Q E h => ?_) (fun cdv A outer s H vs Q E hr h => ?_)
  · obtain ⟨ns, k, m, _, G, kk, w, _⟩ := h
    exact allR_len w
  · obtain ⟨ns, k, m, ⟨hl, k0, k1, q1, q2⟩, G, kk, w, q⟩ := h
    obtain ⟨v, v', v'', rfl, w, w', w''⟩ := allR3 w
    have hr2 := hr.mono (j := 1) (by decide)
    refine ⟨_, pss_cons (ps_set (i := 3) scLTwo.nd rfl (.inl rfl) (pe_call D1.ok (hr.mono (by decide)) (by rfl) D1.g D1.kp D1.bd .nil pass0 (pa_cons (pv 0) (pa_cons (pv 1) pa_nil))))
      (pss_cons (ps_set (i := 4) scLTwo.nd rfl (.inl rfl) (pe_op op_add pe_int (pe_op op_mod (pe_op op_fdiv (pv 3) pe_int) (pv 2))))
      (pss_cons (ps_set (i := 5) scLTwo.nd rfl (.inl rfl) (pe_call D2.ok (hr.mono (by decide)) (by rfl) D2.g D2.kp D2.bd .nil pass0 (pa_cons (pv 0) (pa_cons (pe_op op_add (pv 1) pe_int) (pa_cons (pv 4) pa_nil)))))
      (pss_cons (ps_if (pt_cmpR op_eq (pe_op op_mod (pv 3) pe_int) pe_int (nomark _)) (pss_one (ps_set (i := 5) scLTwo.nd rfl (.inl rfl) (pe_call D3.ok (hr.mono (by decide)) (by rfl) D3.g D3.kp D3.bd .nil pass0
          (pa_cons (pv 0) (pa_cons (pe_op op_add (pv 1) pe_int) (pa_cons (pe_listRg rfl (by rfl) B.list (prg_2 (by rfl) B.range pe_int (pe_op op_add (pv 4) pe_int))) (pa_cons (pe_op op_mod (pe_op op_fdiv (pv 3) pe_int) (pe_op op_mul pe_int (pv 4))) pa_nil))))))) pss_nil)
      (pss_cons (ps_set (i := 6) scLTwo.nd rfl (.inl rfl) (pe_call D2.ok (hr.mono (by decide)) (by rfl) D2.g D2.kp D2.bd .nil pass0 (pa_cons (pv 0) (pa_cons (pe_op op_add (pv 1) pe_int) (pa_cons (pv 4) pa_nil)))))
      (pss_cons (ps_if (pt_cmpR op_gt (pe_op op_mod (pv 3) pe_int) pe_int (nomark _)) (pss_one (ps_set (i := 6) scLTwo.nd rfl (.inl rfl) (pe_call D3.ok (hr.mono (by decide)) (by rfl) D3.g D3.kp D3.bd .nil pass0
          (pa_cons (pv 0) (pa_cons (pe_op op_add (pv 1) pe_int) (pa_cons (pv 5) (pa_cons (pe_op op_mod (pe_op op_fdiv (pv 3) pe_int) (pe_op op_add (pe_op op_mul pe_int (pv 4)) pe_int)) pa_nil))))))) pss_nil)
      (pss_one (ps_ret (pe_tup (pa_cons (pv 5) (pa_cons (pv 6) pa_nil)))))))))), ?_⟩
    obtain ⟨m1, m2, m3⟩ := Sw.gmany_b (ns := ns) (k := k) q1
    have R1 := Sw.gone_row (ns := ns) (k := k) (m := m)
    have dn := Sw.drw_nn (ns := ns) (k := k)
    have b1 := modB (Sw.drw ns k / 64) (b := 2 * (Sw.gmany ns k m : Int)) (by omega)
    have b2 := modB (Sw.drw ns k / 512) (b := 2 * (Sw.gmany ns k m : Int) + 1) (by omega)
    refine q_asg kk (ev_call (ea2 isS_ex isD_ex (ev_var rfl w) (ev_var rfl w')) fun vs H Q E h => ⟨ns, k, ⟨hl, by omega, by omega⟩, h⟩) fun v3 G1 H1 n1 r3 => ?_
    refine q_asg n1.kn (Ev.to (ev_add ev_int (ev_mod (ev_fdiv (ev_var (i := 3) rfl r3) (ev_int (i := 8))) (ev_var (i := 2) rfl (isD_ex.ex n1.ex w'')) (by omega))) m3.symm) fun v4 G2 H2 n2 r4 => ?_
    have n02 := n1.trans n2
    refine q_asg n2.kn (EvN.ev (en_call (ea3 isS_ex isD_ex isD_ex (ev_var (i := 0) rfl (isS_ex.ex n02.ex w)) (ev_add (ev_var (i := 1) rfl (isD_ex.ex n02.ex w')) ev_int) (ev_var (i := 4) rfl r4)) fun vs H Q E h => ⟨ns, k + 1, Sw.gmany ns k m, ⟨hl, by omega, by omega, by omega⟩, h⟩)) fun v5 G3 H3 n3 r5 => ?_
    have n03 := n02.trans n3
    have r33 := isD_ex.ex (n2.trans n3).ex r3
    have r43 := isD_ex.ex n3.ex r4
    refine q_ifAsg (R := IsE (Sw.gone ns k m)) isD_ex n3.kn (et_test (ev_eqI (ev_mod (ev_var (i := 3) rfl r33) (ev_int (i := 4))) (ev_int (i := 1)))) (fun hb => ?_) (fun hb => ⟨v5, rfl, ?_⟩) fun v5 G4 H4 n4 r5 => ?_
    · refine Ev.to (x := Sw.lup ns (k + 20) (Sw.rng (Sw.gmany ns k m)) (Sw.drw ns k / 64 % (2 * (Sw.gmany ns k m : Int))).toNat) (ev_call (ea4 isS_ex isD_ex isD_ex isD_ex (ev_var (i := 0) rfl (isS_ex.ex n03.ex w)) (ev_add (ev_var (i := 1) rfl (isD_ex.ex n03.ex w')) ev_int)
        (EvN.ev (en_listRg ev_int (ev_add (ev_var (i := 4) rfl r43) ev_int) (by omega))) (ev_mod (ev_fdiv (ev_var (i := 3) rfl r33) (ev_int (i := 64))) (ev_mul ev_int (ev_var (i := 4) rfl r43) (cmul_l (by decide) (by decide))) (by omega)))
        fun vs H Q E h => ⟨ns, k + 20, Sw.gmany ns k m, Sw.rng (Sw.gmany ns k m), (Sw.drw ns k / 64 % (2 * (Sw.gmany ns k m : Int))).toNat, ⟨hl, by omega, by omega, by omega, Sw.rng_row, by omega⟩, ?_⟩) ?_
      · rw [Int.toNat_of_nonneg (Int.emod_nonneg _ (by omega))]
        exact h
      · unfold Sw.gone
        rw [if_pos hb]
    · have z : Sw.gone ns k m = Sw.lrow ns (k + 1) (Sw.gmany ns k m) := by
        unfold Sw.gone
        rw [hb]
        rfl
      rw [z]
      exact r5
    have n04 := n03.trans n4
    have r34 := isD_ex.ex n4.ex r33
    have r44 := isD_ex.ex n4.ex r43
    refine q_asg n4.kn (EvN.ev (en_call (ea3 isS_ex isD_ex isD_ex (ev_var (i := 0) rfl (isS_ex.ex n04.ex w)) (ev_add (ev_var (i := 1) rfl (isD_ex.ex n04.ex w')) ev_int) (ev_var (i := 4) rfl r44)) fun vs H Q E h => ⟨ns, k + 50, Sw.gmany ns k m, ⟨hl, by omega, by omega, by omega⟩, h⟩)) fun v6 G5 H5 n5 r6 => ?_
    have n05 := n04.trans n5
    have r35 := isD_ex.ex n5.ex r34
    have r45 := isD_ex.ex n5.ex r44
    have r55 := isD_ex.ex n5.ex r5
    refine q_ifAsg (R := IsE (Sw.gother ns k m)) isD_ex n5.kn (et_test (ev_b0 (f := fun i j => decide (i > j)) (ev_mod (ev_var (i := 3) rfl r35) (ev_int (i := 8))) (ev_int (i := 4)))) (fun hb => ?_) (fun hb => ⟨v6, rfl, ?_⟩) fun v6 G6 H6 n6 r6 => ?_
    · refine Ev.to (x := Sw.lup ns (k + 70) (Sw.gone ns k m) (Sw.drw ns k / 512 % (2 * (Sw.gmany ns k m : Int) + 1)).toNat) (ev_call (ea4 isS_ex isD_ex isD_ex isD_ex (ev_var (i := 0) rfl (isS_ex.ex n05.ex w)) (ev_add (ev_var (i := 1) rfl (isD_ex.ex n05.ex w')) ev_int)
        (ev_var (i := 5) rfl r55) (ev_mod (ev_fdiv (ev_var (i := 3) rfl r35) (ev_int (i := 512))) (ev_add (ev_mul ev_int (ev_var (i := 4) rfl r45) (cmul_l (by decide) (by decide))) ev_int) (by omega)))
        fun vs H Q E h => ⟨ns, k + 70, Sw.gmany ns k m, Sw.gone ns k m, (Sw.drw ns k / 512 % (2 * (Sw.gmany ns k m : Int) + 1)).toNat, ⟨hl, by omega, by omega, by omega, R1, by omega⟩, ?_⟩) ?_
      · rw [Int.toNat_of_nonneg (Int.emod_nonneg _ (by omega))]
        exact h
      · unfold Sw.gother
        rw [if_pos hb]
    · have z : Sw.gother ns k m = Sw.lrow ns (k + 50) (Sw.gmany ns k m) := by
        unfold Sw.gother
        rw [hb]
        rfl
      rw [z]
      exact r6
    exact s_ret n6.kn (ev_pair (ev_var (i := 5) rfl (isD_ex.ex n6.ex r55)) (ev_var (i := 6) rfl r6)) fun v7 G7 H7 n7 r7 => q v7 G7 H7 ((n05.trans n6).trans n7) r7
end
end Pg

set_option Elab.async false
set_option linter.all false
set_option maxRecDepth 100000
namespace Sw
def tF (r : List Int) (p : Nat × Int) : List (Int × Int) := ((r.drop (p.1 + 1)).filter fun l => decide (l < p.2)).map fun l => (l, p.2)
def tUp (r : List Int) (i : Nat) : List (Int × Int) := (((List.range r.length).zip r).take i).flatMap (tF r)
def tIn (r : List Int) (i : Nat) (h : Int) (j : Nat) : List (Int × Int) := tUp r i ++ (((r.drop (i + 1)).take j).filter fun l => decide (l < h)).map fun l => (l, h)
theorem takeS {α : Type} {xs : List α} {i : Nat} {x : α} (h : xs[i]? = some x) : xs.take (i + 1) = xs.take i ++ [x] := by
  rw [List.take_add_one, h] <;> rfl
theorem tUp_end (r : List Int) : tUp r r.length = tpRaw r := by
  unfold tUp
  rw [List.take_of_length_le (by rw [List.length_zip, List.length_range]; omega)]
  exact tpRaw_enum r
theorem zip_at {r : List Int} {i : Nat} {h : Int} (e : r[i]? = some h) : ((List.range r.length).zip r)[i]? = some (i, h) :=
  List.getElem?_zip_eq_some.mpr ⟨List.getElem?_range (List.getElem?_eq_some_iff.mp e).1, e⟩
theorem tIn_end {r : List Int} {i : Nat} {h : Int} (e : r[i]? = some h) : tIn r i h (r.length - (i + 1)) = tUp r (i + 1) := by
  unfold tIn tUp
  rw [takeS (zip_at e), List.flatMap_append, List.flatMap_singleton]
  have z : (r.drop (i + 1)).take (r.length - (i + 1)) = r.drop (i + 1) := List.take_of_length_le (by rw [List.length_drop]; exact Nat.le_refl _)
  rw [z]
  rfl
theorem tIn_step {r : List Int} {i j : Nat} {h l : Int} (e : (r.drop (i + 1))[j]? = some l) : tIn r i h (j + 1) = if decide (l < h) = true then tIn r i h j ++ [(l, h)] else tIn r i h j := by
  unfold tIn
  rw [takeS e, List.filter_append, List.map_append]
  split
  · rename_i c
    rw [List.filter_cons, if_pos c, ← List.append_assoc]
    rfl
  · rename_i c
    rw [List.filter_cons, if_neg c]
    show _ ++ (_ ++ []) = _
    rw [List.append_nil]
theorem tUp_len (r : List Int) (h : r.length ≤ 12) : ∀ i, (tUp r i).length ≤ 144 := by
  have key : ∀ (l : List (Nat × Int)), (l.flatMap (tF r)).length ≤ l.length * 12 := by
    intro l
    induction l with
    | nil => simp
    | cons x l ih =>
      rw [List.flatMap_cons, List.length_append, List.length_cons]
      have q : (tF r x).length ≤ 12 := by
        unfold tF
        rw [List.length_map]
        exact Nat.le_trans (List.length_filter_le _ _) (by rw [List.length_drop]; omega)
      omega
  intro i
  have q := key (((List.range r.length).zip r).take i)
  have q2 : (((List.range r.length).zip r).take i).length ≤ 12 := by
    rw [List.length_take, List.length_zip, List.length_range]
    omega
  unfold tUp
  omega
theorem tIn_len (r : List Int) (h : r.length ≤ 12) (i : Nat) (x : Int) (j : Nat) : (tIn r i x j).length ≤ 160 := by
  have q := tUp_len r h i
  unfold tIn
  rw [List.length_append, List.length_map]
  have q2 := List.length_filter_le (fun l => decide (l < x)) ((r.drop (i + 1)).take j)
  have q3 : ((r.drop (i + 1)).take j).length ≤ 12 := by
    rw [List.length_take, List.length_drop]
    omega
  omega
end Sw
namespace Pg
open PySem PySem.Spec PySem.Calls PyProof.Rows L2 LamX NdefX Ed
open Ed.Enc (enc)
abbrev sTurned : Stmt := topS 29
theorem scTurned : FnScope ["_law_row_here", "_law_found", "_law_high", "_law_low"] ["_law_row_here"] (defScope sTurned) := ⟨rfl, rfl, rfl, by decide +kernel, rfl, by decide +kernel, by decide +kernel⟩
theorem rng_at {a b : Int} {i : Nat} {x : Int} (h : (Sw.rngI a b)[i]? = some x) : x = a + (i : Int) ∧ x < b := by
  have z := (List.getElem?_eq_some_iff.mp h).1
  rw [Sw.len_rngI] at z
  have q := rngI_at (i := a) (j := b) (k := i) z
  rw [h] at q
  have e := Option.some.inj q
  omega
section
variable {P : Program} {w : World} {K : PySem.W.Frag} {mg : Str → Option Value} {base : Heap} {T : Tbs} {f f1 f2 f3 f4 f5 f6 f7 f8 c Pt : Addr} {fd d1 d2 d3 d4 d5 d6 d7 d8 : FuncData}
def spTurned (T : Tbs) : Sp := fun vs H Q E => ∃ (r : List Int), r.length ≤ 12 ∧ PromN T [IsE r] (Sw.tp r) vs H Q E
theorem ok_turned (F : Fun K "_law_turned" "_law_turned" sTurned f fd) (B : Bi mg) : FnOk P w K mg base CX0 1 f fd ["_law_row_here"] (spTurned T) := by
  refine F.ok scTurned (fun vs H Q E h => ?_) (fun cdv A outer s H vs Q E hr h => ?_)
  · obtain ⟨r, _, G, kk, w, _⟩ := h
    exact allR_len w
  · obtain ⟨r, hl, G, kk, w, q⟩ := h
    obtain ⟨v, rfl, w0⟩ := allR1 w
    refine ⟨_, pss_cons (ps_set (i := 1) scTurned.nd rfl (.inl rfl) (pe_lst pa_nil))
      (pss_cons (ps_for PassesOwn.never rfl (pi_range1 (by rfl) B.range (pa_cons (pe_callB call_len_seq (by rfl) B.len PySem.boot_len (pa_cons (pv 0) pa_nil)) pa_nil)) (pg_name (i := 2) scTurned.nd rfl (.inl rfl))
        (pss_one (ps_for PassesOwn.never rfl (pi_range2 (by rfl) B.range (pa_cons (pe_op op_add (pv 2) pe_int) (pa_cons (pe_callB call_len_seq (by rfl) B.len PySem.boot_len (pa_cons (pv 0) pa_nil)) pa_nil))) (pg_name (i := 3) scTurned.nd rfl (.inl rfl))
          (pss_one (ps_if (pt_cmpR op_lt (pe_ix ix_list (pv 0) (pv 3) (fun _ _ => rfl)) (pe_ix ix_list (pv 0) (pv 2) (fun _ _ => rfl)) (nomark _))
            (pss_one (ps_expr (pe_bm PySem.F.plainAttrs_list PySem.F.slot_list_append PySem.F.type_list_append mt_append (pv 1) (pa_cons (pe_tup (pa_cons (pe_ix ix_list (pv 0) (pv 3) (fun _ _ => rfl)) (pa_cons (pe_ix ix_list (pv 0) (pv 2) (fun _ _ => rfl)) pa_nil))) pa_nil)))) pss_nil)))))
      (pss_one (ps_ret (pe_callB cr_sortedPO (by rfl) B.sorted PyProof.Rows.boot_sorted (pa_cons (pv 1) pa_nil))))), ?_⟩
    have at_ : ∀ {σ : L2.St} {G' : Hp} {te : TE} {a x : Int}, σ[0]? = some (some v) → Ex G G' → Ev T te σ G' a → 0 ≤ a → r[a.toNat]? = some x → Ev T (tOp (rIxL K) (tVar 0) te) σ G' x := fun hs e ha a0 hx =>
      ev_ix (ev_var hs (isD_ex.ex e w0)) ha (atI_nn a0 hx)
    refine q_asgN kk (en_lst (α := Int × Int) (xs := []) ea_nil (by decide)) fun p us G1 H1 n1 p0 hG1 hp1 r1 => ?_
    refine q_for n1.kn (srcs_rng1 (ev_len (ev_var (i := 0) rfl (isD_ex.ex n1.ex w0))) (by omega) (by omega)) (fun i σ' G' H' => ∃ y2 y3 us, σ' = [some v, some (.ref p), y2, y3] ∧ Nx T G H G' H' ∧ G' p = none ∧ H' p = some (.lst us) ∧ DqAll G' us ((Sw.tUp r i).map enc))
      (fun G2 H2 n2 => ?_) (fun G2 i x vx σ' G' H' e2 hx e' k' rx hw => ?_) fun σ' G' H' e' k' hw => ?_
    · obtain ⟨a1, a2⟩ := stays n2 hG1 hp1 nt_lst nu_lst
      exact ⟨none, none, us, rfl, n1.trans n2, a1, a2, da_ex n2.ex r1⟩
    · obtain ⟨y2, y3, us, rfl, n3, a1, a2, r3⟩ := hw
      obtain ⟨ex, hxl⟩ := rng_at hx
      have ex : x = (i : Int) := by omega
      subst ex
      have hi : i < r.length := by omega
      have hri := List.getElem?_eq_getElem hi
      generalize r[i]'hi = h at hri
      refine s_for k' (srcs_rng2 (ev_add (ev_var (i := 2) rfl rx) (ev_int (i := 1))) (ev_len (ev_var (i := 0) rfl (isD_ex.ex n3.ex w0))) (by omega)) (fun j σ' G' H' => ∃ y3 us, σ' = [some v, some (.ref p), some vx, y3] ∧ Nx T G H G' H' ∧ G' p = none ∧ H' p = some (.lst us) ∧ DqAll G' us ((Sw.tIn r i h j).map enc) ∧ IsE (i : Int) G' vx ∧ Ex G2 G')
        (fun G4 H4 n4 => ?_) (fun G4 j x vy σ' G' H' e4 hy e'' k'' ry hw2 => ?_) fun σ' G' H' e'' k'' hw2 => ?_
      · obtain ⟨b1, b2⟩ := stays n4 a1 a2 nt_lst nu_lst
        refine ⟨y3, us, rfl, n3.trans n4, b1, b2, ?_, isD_ex.ex n4.ex rx, e'.trans n4.ex⟩
        have e : Sw.tIn r i h 0 = Sw.tUp r i := by
          unfold Sw.tIn
          simp
        rw [e]
        exact da_ex n4.ex r3
      · obtain ⟨y3, us, rfl, n5, b1, b2, r5, rx5, e25⟩ := hw2
        obtain ⟨ey, hyl⟩ := rng_at hy
        have hj : i + 1 + j < r.length := by omega
        have hrj := List.getElem?_eq_getElem hj
        generalize r[i + 1 + j]'hj = l at hrj
        have hdj : (r.drop (i + 1))[j]? = some l := by
          rw [List.getElem?_drop]
          exact hrj
        have tn : x.toNat = i + 1 + j := by omega
        have t1 : ∀ {σ : L2.St} {G5 : Hp}, σ[0]? = some (some v) → σ[3]? = some (some vy) → Ex G G5 → IsE x G5 vy → Ev T (tOp (rIxL K) (tVar 0) (tVar 3)) σ G5 l := fun h0 h3 e r => at_ h0 e (ev_var h3 r) (by omega) (by rw [tn]; exact hrj)
        have t2 : ∀ {σ : L2.St} {G5 : Hp}, σ[0]? = some (some v) → σ[2]? = some (some vx) → Ex G G5 → IsE (i : Int) G5 vx → Ev T (tOp (rIxL K) (tVar 0) (tVar 2)) σ G5 h := fun h0 h2 e r => at_ h0 e (ev_var h2 r) (by omega) (by rw [Int.toNat_natCast]; exact hri)
        have us_len := da_len r5
        rw [List.length_map] at us_len
        have ul := Sw.tIn_len r hl i h j
        rw [Sw.tIn_step hdj]
        refine s_if k'' (et_test (ev_b0 (f := fun i j => decide (i < j)) (t1 rfl rfl n5.ex ry) (t2 rfl rfl n5.ex rx5))) (fun hb G6 H6 n6 => ?_) fun hb G6 H6 n6 => ?_
        · obtain ⟨c1, c2⟩ := stays n6 b1 b2 nt_lst nu_lst
          refine s_app (i := 1) n6.kn rfl c1 c2 (by omega) (ev_pair (t1 rfl rfl (n5.trans n6).ex (isD_ex.ex n6.ex ry)) (t2 rfl rfl (n5.trans n6).ex (isD_ex.ex n6.ex rx5))) fun v7 G7 H7 n7 g7 h7 r7 => ?_
          have nn := ((n5.trans n6).trans n7).mut (o' := HO.lst (us ++ [v7])) p0 g7 h7 True.intro
          refine ⟨G7, e''.trans (n6.trans n7).ex, nn.kn, some vy, us ++ [v7], rfl, nn, g7, upd_same, ?_, isD_ex.ex (n6.trans n7).ex rx5, e25.trans (n6.trans n7).ex⟩
          rw [if_pos hb, List.map_append]
          exact da_app (da_ex (n6.trans n7).ex r5) (.cons r7 .nil)
        · obtain ⟨c1, c2⟩ := stays n6 b1 b2 nt_lst nu_lst
          refine ⟨G6, e''.trans n6.ex, n6.kn, some vy, us, rfl, n5.trans n6, c1, c2, ?_, isD_ex.ex n6.ex rx5, e25.trans n6.ex⟩
          rw [if_neg (by rw [hb]; decide)]
          exact da_ex n6.ex r5
      · obtain ⟨y3, us, rfl, n5, b1, b2, r5, rx5, e25⟩ := hw2
        have ln : (Sw.rngI ((i : Int) + 1) (r.length : Int)).length = r.length - (i + 1) := by
          rw [Sw.len_rngI]
          omega
        rw [ln, Sw.tIn_end hri] at r5
        exact ⟨G', e25, n5.kn, some vx, y3, us, rfl, n5, b1, b2, r5⟩
    · obtain ⟨y2, y3, us, rfl, n3, a1, a2, r3⟩ := hw
      have ln : (Sw.rngI 0 (r.length : Int)).length = r.length := by
        rw [Sw.len_rngI]
        omega
      rw [ln, Sw.tUp_end] at r3
      have n4 := n3.freeze p0 a1 a2 nt_lst
      exact s_retN n4.kn (en_sortedP (ev_var (i := 1) rfl (Dq.lst upd_same (da_ex (Ex.new a1) r3)))) fun p vs G5 H5 n5 h0 hG hp r5 => q p vs G5 H5 (n4.trans n5) (n4.dom p h0) hG hp r5
end
end Pg

set_option Elab.async false
set_option linter.all false
set_option maxRecDepth 100000
namespace Ho
open PySem PySem.Spec PySem.Calls PyProof.Rows L2 LamX NdefX Ed Sx Ru
open Ed.Enc (enc)
section
variable {α : Type} [Enc α] {T : Tbs} {K : PySem.W.Frag} {σ : L2.St} {G0 H0 F G H : Hp} {Γ Γ' : List Sl} {i j : Nat} {te tl ta : TE} {tb : TS} {D : Ends}
theorem st_forOP {xs : List α} {tg : α → List Sl → List Sl} {g : TG} (Γi : Ow → Nat → List Sl) (ok : Nat → Prop) (o0 : ok 0) (s : Sat T G0 H0 F Γ σ G H) (hi : Γ[i]? = some (.ow (OL (xs.map enc)))) (hg : TgS T g (fun x : α => IsE x) tg) (hat : ∀ O k, (Γi O k)[i]? = some (.ow O)) (hset : ∀ O O' k, (Γi O k).set i (.ow O') = Γi O' k)
    (h0 : Wk Γ (Γi (OL (xs.map enc)) 0))
    (hs : ∀ O k x σ G H, xs[k]? = some x → ok k → Sat T G0 H0 F (tg x (Γi O k)) σ G H → tb { D with nx := fun σ H => ok (k + 1) ∧ ∃ G, Sat T G0 H0 F (Γi O (k + 1)) σ G H, ct := fun σ H => ok (k + 1) ∧ ∃ G, Sat T G0 H0 F (Γi O (k + 1)) σ G H, bk := D.nx } σ H)
    (hd : ∀ σ G H, ok xs.length → Sat T G0 H0 F (Γi (OL (xs.map enc)) xs.length) σ G H → D.nx σ H) : tFor (iList K (tVar i)) g tb D σ H := by
  obtain ⟨p, vs, e, z1, z2, r⟩ := s.own hi
  have hl := da_len r
  rw [List.length_map] at hl
  have same : ∀ p' o, σ[i]? = some (some (.ref p')) → H p' = some o → (OL (xs.map enc)).P G p' o → (OF p vs (xs.map enc)).P G p' o := fun p' o e' h' _ => by
    rw [e] at e'
    cases e'
    rw [z2] at h'
    cases h'
    exact ⟨rfl, rfl, r⟩
  have s1 := (s.weak h0).reOw (O' := OF p vs (xs.map enc)) (hat _ _) same
  rw [hset] at s1
  refine ⟨.ref p, e, p, rfl, ⟨vs, .inl (.inl z2)⟩, ?_⟩
  refine for_it (walk_list (K := K) (a := p) (xs := vs)) (fun k σ H => ok k ∧ ∃ G, Sat T G0 H0 F (Γi (OF p vs (xs.map enc)) k) σ G H) ⟨o0, G, s1⟩ (fun k σ' H' _ ⟨_, G', s'⟩ => ?_) (fun k v σ' H' H'' hk ⟨ok', G', s'⟩ y => ?_) fun σ' H' ⟨ok', G', s'⟩ => ?_
  · obtain ⟨p', o, _, _, _, q2, rfl, rfl, _⟩ := s'.ow i _ (hat _ _)
    exact .inl (.inl q2)
  · obtain ⟨e1, hv⟩ := y
    subst e1
    obtain ⟨p', o, _, _, _, q2, rfl, rfl, r'⟩ := s'.ow i _ (hat _ _)
    obtain ⟨d, hd', rv⟩ := da_at r' hv
    rw [List.getElem?_map] at hd'
    obtain ⟨x, hx, rfl⟩ := Option.map_eq_some_iff.mp hd'
    exact hg s' rv _ fun σ2 s2 => hs _ k x σ2 _ _ hx ok' s2
  · rw [hl] at s' ok'
    have z := s'.reOw (O' := OL (xs.map enc)) (hat _ _) fun p' o _ _ hP => by
      obtain ⟨_, rfl, r'⟩ := hP
      exact ⟨vs, rfl, r'⟩
    rw [hset] at z
    exact hd _ _ _ ok' z
theorem atI_last2 {α : Type} {xs : List α} {x : α} : atI (xs ++ [x]) (-1) = some x := by
  have e : (-1 + (((xs.length + 1 : Nat)) : Int)).toNat = xs.length := by omega
  have z : ixN (xs ++ [x]).length (-1) = some xs.length := by
    unfold ixN
    rw [if_neg (by decide), List.length_append]
    show (if -(((xs.length + 1 : Nat)) : Int) ≤ -1 then some (-1 + (((xs.length + 1 : Nat)) : Int)).toNat else none) = _
    rw [if_pos (by omega), e]
  unfold atI
  rw [z]
  show (xs ++ [x])[xs.length]? = some x
  simp
theorem ix_tupK0 {X : Cx} {K : PySem.W.Frag} (h : X.K = K) : IxR X (rIxT K) := h ▸ ix_tup
theorem lk_seen {xs : List Int} {i : Int} : (lk (xs.map fun x => (x, true)) i).isSome = decide (i ∈ xs) := by
  induction xs with
  | nil => rfl
  | cons x xs ih =>
    unfold lk at *
    rw [List.map_cons, List.find?_cons]
    by_cases c : x = i
    · rw [decide_eq_true c, decide_eq_true (List.mem_cons.mpr (.inl c.symm))]
      rfl
    · rw [decide_eq_false c]
      dsimp only
      rw [ih]
      refine decide_eq_decide.mpr ?_
      rw [List.mem_cons]
      exact ⟨.inr, fun h => h.resolve_left fun z => c z.symm⟩
end
end Ho

set_option Elab.async false
set_option linter.all false
set_option maxRecDepth 100000
namespace Pg
open PySem PySem.Spec PySem.Calls PyProof.Rows L2 LamX NdefX Ed Ho Sx Ru
open Ed.Enc (enc)
open Sw (lst)
abbrev s__law_followed : Stmt := topS 34
theorem sc__law_followed : FnScope ["_law_pairs", "_law_many", "_law_pair", "_law_known", "_law_before", "_law_low", "_law_middle", "_law_high"] ["_law_pairs", "_law_many"] (defScope s__law_followed) := ⟨rfl, rfl, rfl, by decide +kernel, rfl, by decide +kernel, by decide +kernel⟩
abbrev s__law_reason : Stmt := topS 37
theorem sc__law_reason : FnScope ["_law_pairs", "_law_pair", "_law_rows", "_law_longer", "_law_row_here", "_law_two_here", "_law_seen"] ["_law_pairs", "_law_pair"] (defScope s__law_reason) := ⟨rfl, rfl, rfl, by decide +kernel, rfl, by decide +kernel, by decide +kernel⟩
theorem take_foldl' {α β : Type} {f : β → α → β} {xs : List α} {i : Nat} {x : α} {b : β} (h : xs[i]? = some x) : (xs.take (i + 1)).foldl f b = f ((xs.take i).foldl f b) x := by
  have e : xs.take (i + 1) = xs.take i ++ [x] := by
    rw [List.take_add_one, h] <;> rfl
  rw [e, List.foldl_append]
  rfl
theorem nodup_lenI : ∀ {l m : List Int}, l.Nodup → (∀ x ∈ l, x ∈ m) → l.length ≤ m.length
  | [], _, _, _ => Nat.zero_le _
  | x :: l, m, nd, h => by
    obtain ⟨n1, n2⟩ := List.nodup_cons.mp nd
    have hx := h x List.mem_cons_self
    have ih := nodup_lenI (m := m.erase x) n2 fun y hy => (List.mem_erase_of_ne fun e => n1 (by rw [← e]; exact hy)).mpr (h y (List.mem_cons_of_mem _ hy))
    rw [List.length_erase_of_mem hx] at ih
    have := List.length_pos_of_mem hx
    rw [List.length_cons]
    omega
theorem rows_len {S : List (Int × Int)} {a last : Int} {k : Nat} {rows : List (List Int)} (hs : ∀ p ∈ S, p.1 < p.2) (h1 : 1 ≤ a) (h2 : last ≤ 12) (L : Sw.Lvl S a last k rows) : rows.length ≤ 12 := by
  have z := nodup_lenI (l := rows.map lst) (m := Sw.rngI 1 13) (List.pairwise_map.mpr L.one) fun v hv => by
    obtain ⟨r, hr, e⟩ := List.mem_map.mp hv
    obtain ⟨q1, q2, q3⟩ := L.pth r hr
    have b := q1.bound hs
    rw [q3] at b
    exact Sw.mem_rngI.mpr (by omega)
  rw [List.length_map, Sw.len_rngI] at z
  exact z
theorem atI_lst {r : List Int} (h : r ≠ []) : atI r (-1) = some (lst r) := by
  rcases List.eq_nil_or_concat r with e | ⟨ys, z, e⟩
  · exact absurd e h
  · have e : r = ys ++ [z] := by simpa using e
    subst e
    rw [Sw.lst_snoc]
    exact atI_last2
theorem ix_tupK {X : Cx} {K : PySem.W.Frag} (h : X.K = K) : IxR X (rIxT K) := h ▸ ix_tup
section
variable {P : Program} {w : World} {K : PySem.W.Frag} {mg : Str → Option Value} {base : Heap} {T : Tbs} {f f1 f2 f3 f4 : Addr} {fd d1 d2 d3 d4 : FuncData} {σ : L2.St} {G : Hp} {ta tb tc td : TE} {E : XK}
abbrev spFol (T : Tbs) : Sp := Sp1 T (fun ((ps, n) : List (Int × Int) × Nat) => ps.length ≤ 1000 ∧ n ≤ 12 ∧ Sw.InB n ps) (fun (ps, n) => [IsE ps, IsE (n : Int)]) (fun (ps, n) => .new (OL ((Sw.fol ps n).map enc)))
theorem ok_fol (F : Fun K "_law_followed" "_law_followed" s__law_followed f fd) (B : Bi mg) (J : Bj mg) : FnOk P w K mg base CX0 1 f fd ["_law_pairs", "_law_many"] (spFol T) := by
  refine def_ok F sc__law_followed (fun b => rfl) (fun b => ⟨isD_ex, isD_ex, True.intro⟩) fun ⟨ps, n⟩ ⟨hl, h2, hb⟩ cdv A outer s0 G H σ Q E hr q s => ⟨_, (pss_cons (ps_set (i := 3) sc__law_followed.nd rfl (.inl rfl) (pe_callTy (Ru.cr_dictTK (K := K) rfl rfl (hu64 hr)) (by rfl) J.dict (by decide +kernel) (pa_cons (pe_lc (own := [("_law_pair", 2)]) rfl sc__law_followed.nd (pi_listK (K := K) rfl (pv 0)) (blkOk_by (own := [("_law_pair", 2)]) (N := ["_law_pairs", "_law_many", "_law_pair", "_law_known", "_law_before", "_law_low", "_law_middle", "_law_high"]) (sc := defScope s__law_followed) (by decide +kernel)) (fun _ _ _ _ _ => pg_name (i := 2) sc__law_followed.nd rfl (.inl rfl)) (fun _ _ _ _ _ => pts_nil) (fun _ _ _ _ _ => (pe_tup (pa_cons (pv 2) (pa_cons pe_bl pa_nil))))) pa_nil)))
        (pss_cons (ps_set (i := 4) sc__law_followed.nd rfl (.inl rfl) pe_int)
        (pss_cons (ps_while PassesOwn.never (pt_cmpR op_gt (pe_callB call_len_dT (by rfl) B.len PySem.boot_len (pa_cons (pv 3) pa_nil)) (pv 4) (nomark _))
          (pss_cons (ps_set (i := 4) sc__law_followed.nd rfl (.inl rfl) (pe_callB call_len_dT (by rfl) B.len PySem.boot_len (pa_cons (pv 3) pa_nil)))
        (pss_one (ps_for PassesOwn.never rfl (pi_listK (K := K) rfl (pe_callTy (call_list_dT rfl) (by rfl) B.list (by decide +kernel) (pa_cons (pv 3) pa_nil))) (pg_tupK (K := K) (n := 2) rfl rfl (pgs_cons (pg_name (i := 5) sc__law_followed.nd rfl (.inl rfl)) (pgs_cons (pg_name (i := 6) sc__law_followed.nd rfl (.inl rfl)) pgs_nil)))
          (pss_one (ps_for PassesOwn.never rfl (pi_range2 (by rfl) B.range (pa_cons (pe_op op_add (pv 6) pe_int) (pa_cons (pe_op op_add (pv 1) pe_int) pa_nil))) (pg_name (i := 7) sc__law_followed.nd rfl (.inl rfl))
          (pss_one (ps_if (pt_cmp (pc_din (hu_of hr) (pe_tup (pa_cons (pv 6) (pa_cons (pv 7) pa_nil))) (pv 3))) (pss_one (ps_dput (hu_of hr) (pv 3) (pe_tup (pa_cons (pv 5) (pa_cons (pv 7) pa_nil))) pe_bl rfl)) pss_nil))))))))
        (pss_one (ps_ret (pe_callB (Ru.cr_sortTK (K := K) rfl rfl) (by rfl) B.sorted PyProof.Rows.boot_sorted (pa_cons (pv 3) pa_nil))))))), ?_⟩
  dsimp only at q
  have hl : ps.length ≤ 1000 := hl
  have hb0 := Sw.inb_put0 hb
  refine q_seq (st_asgO (O := OT (Sw.putAll [] ps)) s (fun s => eo_dictT (EvN.ev (en_lcM s (fun p : Int × Int => (p, true)) (src_l (s.var 0 rfl)) tgc_name (by omega) fun p hp {σ G} s => ev_pair (s.var 2 rfl) ev_ltrue))) fun σ G H s => ?_)
  dsimp only
  refine q_seq (st_asg (R := IsE (0 : Int)) s (fun s => ev_int) fun σ G H s => ?_)
  dsimp only
  have grow : ∀ t, ∃ e, Sw.pass n t = t ++ e := fun t => (Sw.grows_passL n).fold t t
  refine q_seq (st_while (γ := List (Int × Int) × Nat) (Γb := fun c => [.im (IsE ps), .im (IsE (n : Int)), .un, .ow (OT c.1), .im (IsE (c.2 : Int)), .un, .un, .un])
    (ok := fun c => Sw.Btw n (Sw.putAll [] ps) c.1 ∧ c.2 ≤ c.1.length ∧ (c.2 = c.1.length → Sw.Closed c.1)) (m := fun c => 150 - c.2) (tst := fun c => decide ((c.1.length : Int) > (c.2 : Int))) (Sw.putAll [] ps, 0) s ?_ ⟨Sw.btw0 ps hb, Nat.zero_le _, fun z => ?_⟩ (fun c ok {σ G} s => et_test (ev_gt (ev_lenT (s.var 3 rfl)) (s.var 4 rfl))) (fun c ok ht σ G H s => ?_) fun c ok ht σ G H s => ?_)
  · exact .same (.same (.un (.same (.same (.un (.un (.un .nil)))))))
  · have e : Sw.putAll [] ps = [] := List.eq_nil_of_length_eq_zero z.symm
    dsimp only
    rw [e]
    exact fun l m h h1 => by cases h1
  · obtain ⟨t, b⟩ := c
    obtain ⟨Bt, hle, _⟩ := ok
    dsimp only at Bt hle s ht
    have ht := of_decide_eq_true ht
    have tl := Sw.inb_len h2 Bt.nd (Bt.inb hb0)
    refine q_seq (st_asgF (R := IsE (t.length : Int)) s (fun s => ev_lenT (s.var 3 rfl)) fun σ G H s => ?_)
    dsimp only
    refine st_forN (xs := t) (γ := List (Int × Int)) (fun k t' => [.im (IsE ps), .im (IsE (n : Int)), .un, .ow (OT t'), .im (IsE (t.length : Int)), .un, .un, .un]) (fun k t' => t' = (t.take k).foldl (Sw.passL n) t) s (fun s => en_listD (s.var 3 rfl)) tgs_pair t rfl ?_ (fun F' k x t' σ G H e hx o s => ?_) fun t' σ G H o s => ?_
    · exact .same (.same (.un (.same (.same (.un (.un (.un .nil)))))))
    · obtain ⟨l, m⟩ := x
      dsimp only at s
      have Bt' : Sw.Btw n (Sw.putAll [] ps) t' := by
        rw [o]
        exact Bt.fold hb0 fun p hp => Bt.sub p (List.mem_of_mem_take hp)
      have lm := Bt.sub _ (List.mem_of_getElem? hx)
      have bd := (Sw.upto_closure hb0).inb _ _ lm
      refine st_forG (γ := List (Int × Int)) (fun j t'' => [.im (IsE ps), .im (IsE (n : Int)), .un, .ow (OT t''), .im (IsE (t.length : Int)), .im (IsE l), .im (IsE m), .un]) (fun j t'' => t'' = ((Sw.rngI (m + 1) ((n : Int) + 1)).take j).foldl (Sw.stepF m l) t' ∧ Sw.Btw n (Sw.putAll [] ps) t'') s (fun s => src_r2 (ev_add (s.var 6 rfl) ev_int) (ev_add (s.var 1 rfl) ev_int)) tgs_name t' ⟨rfl, Bt'⟩ ?_ (fun F2 j h t'' σ G H e2 hx2 o2 s => ?_) fun t'' σ G H o2 s => ?_
      · exact .same (.same (.un (.same (.same (.same (.same (.un .nil)))))))
      · obtain ⟨o2, B2⟩ := o2
        have t2 := Sw.inb_len h2 B2.nd (B2.inb hb0)
        have nx : ((Sw.rngI (m + 1) ((n : Int) + 1)).take (j + 1)).foldl (Sw.stepF m l) t' = Sw.stepF m l t'' h := by rw [take_foldl' hx2, ← o2]
        have B3 := B2.step (h := h) hb0 lm
        refine st_if s (fun s => et_test (ev_dinT (ev_pair (s.var 6 rfl) (s.var 7 rfl)) (s.var 3 rfl))) (fun hb G H s => ?_) fun hb G H s => ?_
        · have hb := of_decide_eq_true hb
          have e3 : Sw.stepF m l t'' h = Sw.putP t'' (l, h) := if_pos hb
          refine st_dputT s rfl (by omega) (fun s => ev_pair (s.var 5 rfl) (s.var 7 rfl)) fun G H s => ?_
          refine ⟨Sw.stepF m l t'' h, G, ⟨nx.symm, B3⟩, ?_⟩
          rw [e3]
          exact s.weak (.same (.same (.un (.same (.same (.same (.same (.un .nil))))))))
        · have hb := of_decide_eq_false hb
          have e3 : Sw.stepF m l t'' h = t'' := if_neg hb
          refine ⟨t'', G, ⟨?_, B2⟩, s.weak (.same (.same (.un (.same (.same (.same (.same (.un .nil))))))))⟩
          rw [nx, e3]
      · obtain ⟨o2, _⟩ := o2
        rw [List.take_length] at o2
        refine ⟨t'', G, ?_, s.weak (.same (.same (.un (.same (.same (.un (.un (.un .nil))))))))⟩
        rw [take_foldl' hx, ← o, o2]
        rfl
    · rw [List.take_length] at o
      have ep : t' = Sw.pass n t := o
      subst ep
      obtain ⟨e, he⟩ := grow t
      refine ⟨(Sw.pass n t, t.length), G, by show 150 - t.length < 150 - b; omega, ⟨Bt.pass hb0, by show t.length ≤ (Sw.pass n t).length; rw [he, List.length_append]; omega, fun z => ?_⟩, s.weak (.same (.same (.un (.same (.same (.un (.un (.un .nil))))))))⟩
      have z : t.length = (Sw.pass n t).length := z
      have e0 : e = [] := by
        rw [he, List.length_append] at z
        exact List.eq_nil_of_length_eq_zero (by omega)
      have fx : Sw.pass n t = t := by rw [he, e0, List.append_nil]
      show Sw.Closed (Sw.pass n t)
      rw [fx]
      exact Sw.pass_closed (Bt.inb hb0) fx
  · obtain ⟨t, b⟩ := c
    obtain ⟨Bt, hle, hc⟩ := ok
    dsimp only at Bt hle hc s ht
    have ht := of_decide_eq_false ht
    have tl := Sw.inb_len h2 Bt.nd (Bt.inb hb0)
    have e := Sw.fol_done hb Bt (hc (by omega))
    dsimp only
    exact st_retN s (fun s => EvN.to (en_sortT (s.var 3 rfl) (by omega)) e) q
abbrev spReason (T : Tbs) : Sp := Sp1 T (fun ((S, a, b) : List (Int × Int) × Int × Int) => (Sw.Rising S ∧ (∀ p ∈ S, p.1 < p.2) ∧ S.length ≤ 300) ∧ 1 ≤ a ∧ a ≤ b ∧ b ≤ 12) (fun (S, a, b) => [IsE S, IsE (a, b)]) (fun (S, a, b) => .val (IsE (Sw.rise S a b)))
theorem ok_reason (F : Fun K "_law_reason" "_law_reason" s__law_reason f fd) (B : Bi mg) : FnOk P w K mg base CX0 1 f fd ["_law_pairs", "_law_pair"] (spReason T) := by
  refine def_ok F sc__law_reason (fun b => rfl) (fun b => ⟨isD_ex, isD_ex, True.intro⟩) fun ⟨S, a, b⟩ hh cdv A outer s0 G H σ Q E hr q s => ⟨_, (pss_cons (ps_set (i := 2) sc__law_reason.nd rfl (.inl rfl) (pe_lst (pa_cons (pe_lst (pa_cons (pe_ix (ix_tupK (K := K) rfl) (pv 1) pe_int (fun _ _ => rfl)) pa_nil)) pa_nil)))
        (pss_cons (ps_while PassesOwn.never (pt_cmpR (op_neDK (K := K) rfl (hu64 hr)) (pv 2) (pe_lst pa_nil) (nomark _))
          (pss_cons (ps_set (i := 3) sc__law_reason.nd rfl (.inl rfl) (pe_lst pa_nil))
        (pss_cons (ps_for PassesOwn.never rfl (pi_listK (K := K) rfl (pv 2)) (pg_name (i := 4) sc__law_reason.nd rfl (.inr rfl))
          (pss_cons (ps_if (pt_cmpR op_eq (pe_ix (ix_listK (K := K) rfl) (pv 4) (pe_un un_neg pe_int) (fun _ _ => rfl)) (pe_ix (ix_tupK (K := K) rfl) (pv 1) pe_int (fun _ _ => rfl)) (nomark _)) (pss_one (ps_ret (pv 4))) pss_nil)
        (pss_one (ps_expr (pe_bm PySem.F.plainAttrs_list PySem.F.slot_list_extend PySem.F.type_list_extend mt_extend (pv 3) (pa_cons (pe_lc (own := [("_law_two_here", 5)]) rfl sc__law_reason.nd (pi_listK (K := K) rfl (pv 0)) (blkOk_by (own := [("_law_two_here", 5)]) (N := ["_law_pairs", "_law_pair", "_law_rows", "_law_longer", "_law_row_here", "_law_two_here", "_law_seen"]) (sc := defScope s__law_reason) (by decide +kernel)) (fun _ _ _ _ _ => pg_name (i := 5) sc__law_reason.nd rfl (.inl rfl)) (fun _ _ _ _ _ => pts_one (PW.pt (pw_and (pt_cmpR op_eq (pe_ix (ix_tupK (K := K) rfl) (pv 5) pe_int (fun _ _ => rfl)) (pe_ix (ix_listK (K := K) rfl) (pv 4) (pe_un un_neg pe_int) (fun _ _ => rfl)) (nomark _)) (pw_and1 (pt_cmpR op_le (pe_ix (ix_tupK (K := K) rfl) (pv 5) pe_int (fun _ _ => rfl)) (pe_ix (ix_tupK (K := K) rfl) (pv 1) pe_int (fun _ _ => rfl)) (nomark _)))))) (fun _ _ _ _ _ => (pe_op op_cat (pv 4) (pe_lst (pa_cons (pe_ix (ix_tupK (K := K) rfl) (pv 5) pe_int (fun _ _ => rfl)) pa_nil))))) pa_nil))))))
        (pss_cons (ps_set (i := 6) sc__law_reason.nd rfl (.inl rfl) pe_dnewK)
        (pss_cons (ps_set (i := 2) sc__law_reason.nd rfl (.inl rfl) (pe_lst pa_nil))
        (pss_one (ps_for PassesOwn.never rfl (pi_listK (K := K) rfl (pv 3)) (pg_name (i := 4) sc__law_reason.nd rfl (.inr rfl))
          (pss_one (ps_if (pt_cmp (pc_dnotin (hu_of hr) (pe_ix (ix_listK (K := K) rfl) (pv 4) (pe_un un_neg pe_int) (fun _ _ => rfl)) (pv 6))) (pss_cons (ps_dput (hu_of hr) (pv 6) (pe_ix (ix_listK (K := K) rfl) (pv 4) (pe_un un_neg pe_int) (fun _ _ => rfl)) pe_bl rfl)
        (pss_one (ps_expr (pe_bm PySem.F.plainAttrs_list PySem.F.slot_list_append PySem.F.type_list_append mt_append (pv 2) (pa_cons (pv 4) pa_nil))))) pss_nil)))))))))
        (pss_one (ps_ret pe_non)))), ?_⟩
  obtain ⟨⟨hR, hs, hl⟩, h1, h2, h3⟩ := hh
  dsimp only at q hR hs hl h1 h2 h3
  refine q_seq (st_asgN s (fun s => en_one (EvN.ev (en_one (ev_fst (s.var 1 rfl))))) fun σ G H s => ?_)
  dsimp only
  refine q_seq (st_while (γ := List (List Int) × Nat) (Γb := fun c => [.im (IsE S), .im (IsE (a, b)), .ow (OL (c.1.map enc)), .un, .un, .un, .un])
    (ok := fun c => Sw.Lvl S a b c.2 c.1 ∧ ∀ m, Sw.Pth S b m a → c.2 + 1 ≤ m.length) (m := fun c => 13 - c.2) (tst := fun c => !decide (c.1 = [])) ([[a]], 0) s ?_ ⟨Sw.lvl0 h2, fun m hm => ?_⟩ (fun c ok {σ G} s => et_test (ev_neD (x := c.1) (s.var 2 rfl) (EvN.ev en_nil))) (fun c ok ht σ G H s => ?_) fun c ok ht σ G H s => ?_)
  · exact .same (.same (.same (.un (.un (.un (.un .nil))))))
  · obtain ⟨t, e⟩ := hm.ne
    rw [e, List.length_cons]
    omega
  · obtain ⟨rows, k⟩ := c
    obtain ⟨L, hm⟩ := ok
    dsimp only at L hm s ht
    have ne : ¬ rows = [] := by simpa using ht
    have kb := Sw.lvl_small hs L ne
    have rl := rows_len hs h1 h3 L
    have two : ∀ r ∈ rows, r ≠ [] := fun r hr z => by
      have := (L.pth r hr).2.2
      rw [z] at this
      cases this
    refine q_seq (st_asgN s (fun s => en_nil (α := List Int)) fun σ G H s => ?_)
    dsimp only
    have ext_len : ∀ r, (Sw.ext1 S b r).length ≤ 300 := fun r => by
      unfold Sw.ext1
      rw [List.length_map]
      exact Nat.le_trans (List.length_filter_le _ _) hl
    have pre_len : ∀ i, ((rows.take i).flatMap (Sw.ext1 S b)).length ≤ 3600 := fun i => by
      have key : ∀ rs : List (List Int), (rs.flatMap (Sw.ext1 S b)).length ≤ 300 * rs.length := by
        intro rs
        induction rs with
        | nil => simp
        | cons r rs ih =>
          have := ext_len r
          rw [List.flatMap_cons, List.length_append, List.length_cons]
          omega
      have z := key (rows.take i)
      have z2 : (rows.take i).length ≤ 12 := by
        rw [List.length_take]
        omega
      omega
    refine q_seq (st_forOP (i := 2) (fun O i => [.im (IsE S), .im (IsE (a, b)), .ow O, .ow (OL (((rows.take i).flatMap (Sw.ext1 S b)).map enc)), .un, .un, .un]) (fun i => ∀ r ∈ rows.take i, lst r ≠ b) (fun r hr => by simp at hr) (xs := rows) s rfl tgs_name (fun _ _ => rfl) (fun _ _ _ => rfl) ?_ (fun O i r σ G H hx o s => ?_) fun σ G H o s => ?_)
    · exact .same (.same (.same (.same (.un (.un (.un .nil))))))
    · have hr := List.mem_of_getElem? hx
      have last : ∀ {σ : L2.St} {G : Hp}, EvR T (tVar 4) σ G (IsE r) → Ev T (tOp (rIxL K) (tVar 4) (tUn (rU fun i => .int (-i)) (tC (.int 1)))) σ G (lst r) := fun h => ev_ix h (ev_neg ev_int) (atI_lst (two r hr))
      refine q_seq (st_if s (fun s => et_test (ev_eqI (last (s.var 4 rfl)) (ev_snd (s.var 1 rfl)))) (fun hb G H s => ?_) fun hb G H s => ?_)
      · have hb := of_decide_eq_true hb
        have best := Sw.lvl_best hs L hm hr hb
        rw [Sw.rise_some hs h2 best] at q
        exact st_ret s (fun s => s.var 4 rfl) q
      · have hb := of_decide_eq_false hb
        have el := ext_len r
        have pl := pre_len i
        dsimp only [tNext]
        refine st_ext (es := (Sw.ext1 S b r).map enc) s rfl (by rw [List.length_map, List.length_map]; omega) (fun s => en_lcE s (fun p : Int × Int => decide (p.1 = lst r) && decide (p.2 ≤ b)) (fun p : Int × Int => r ++ [p.2]) (src_l (s.var 0 rfl)) tgc_name (by omega) (fun p hp {σ G} s => et_and (et_test (ev_eqI (ev_fst (s.var 5 rfl)) (last (s.var 4 rfl)))) fun _ => et_test (ev_le (ev_snd (s.var 5 rfl)) (ev_snd (s.var 1 rfl)))) fun p hp hc {σ G} s => EvN.ev (en_cat (s.var 4 rfl) (EvN.ev (en_one (ev_snd (s.var 5 rfl)))) ?_)) fun G H s => ?_
        · have := (L.pth r hr).2.2
          show r.length + 1 ≤ _
          omega
        · have tk : rows.take (i + 1) = rows.take i ++ [r] := by
            rw [List.take_add_one, hx] <;> rfl
          refine ⟨fun r' hr' => ?_, G, s.weak (.same (.same (.same (.eqL ?_ (.un (.un (.un .nil)))))))⟩
          · rw [tk] at hr'
            rcases List.mem_append.mp hr' with z | z
            · exact o r' z
            · rw [List.mem_singleton.mp z]
              exact hb
          · rw [tk, List.flatMap_append, List.map_append]
            show _ = _ ++ ((Sw.ext1 S b r ++ []).map enc)
            rw [List.append_nil]
    · rw [List.take_length] at o s
      have up := Sw.lvl_up hs L hm o
      have Lnx := Sw.lvl_next hR hs L
      obtain ⟨lg1, lg2, _⟩ := Sw.longer_ok hR hs L
      have lo : (rows.flatMap (Sw.ext1 S b)) = Sw.longer S b rows := rfl
      rw [lo] at s
      have nz : ∀ r ∈ Sw.longer S b rows, r ≠ [] := fun r hr z => by
        have := (lg2 r hr).2.2
        rw [z] at this
        cases this
      have ll : (Sw.longer S b rows).length ≤ 3600 := by
        have z := pre_len rows.length
        rw [List.take_length] at z
        exact z
      dsimp only
      refine q_seq (st_asgO (O := ODn ([] : List (Int × Bool))) s (fun s => eo_dnewN) fun σ G H s => ?_)
      dsimp only
      refine q_seq (st_asgN s (fun s => en_nil (α := List Int)) fun σ G H s => ?_)
      dsimp only
      have sz : ∀ i, (((Sw.longer S b rows).take i).foldl Sw.ddS ([], [])).2.length ≤ 3600 ∧ (((Sw.longer S b rows).take i).foldl Sw.ddS ([], [])).1.length ≤ 3600 := fun i => by
        obtain ⟨f1, f2, _⟩ := Sw.ddS_fold (xs := (Sw.longer S b rows).take i) (lg1.sublist (List.take_sublist _ _))
        have z := f2.length_le
        rw [List.length_take] at z
        refine ⟨by omega, ?_⟩
        rw [f1, List.length_map]
        omega
      refine st_forO (i := 3) (fun O i => [.im (IsE S), .im (IsE (a, b)), .ow (OL ((((Sw.longer S b rows).take i).foldl Sw.ddS ([], [])).2.map enc)), .ow O, .un, .un, .ow (ODn ((((Sw.longer S b rows).take i).foldl Sw.ddS ([], [])).1.map fun x => (x, true)))]) (xs := Sw.longer S b rows) s rfl tgs_name (fun _ _ => rfl) (fun _ _ _ => rfl) ?_ (fun O i r σ G H hx s => ?_) fun σ G H s => ?_
      · exact .same (.same (.same (.same (.un (.un (.same .nil))))))
      · have hr := List.mem_of_getElem? hx
        have last : ∀ {σ : L2.St} {G : Hp}, EvR T (tVar 4) σ G (IsE r) → Ev T (tOp (rIxL K) (tVar 4) (tUn (rU fun i => .int (-i)) (tC (.int 1)))) σ G (lst r) := fun h => ev_ix h (ev_neg ev_int) (atI_lst (nz r hr))
        obtain ⟨z1, z2⟩ := sz i
        have nx : ((Sw.longer S b rows).take (i + 1)).foldl Sw.ddS ([], []) = Sw.ddS (((Sw.longer S b rows).take i).foldl Sw.ddS ([], [])) r := take_foldl' hx
        generalize ((Sw.longer S b rows).take i).foldl Sw.ddS ([], []) = st at nx s z1 z2
        refine st_if s (fun s => et_test (Ev.to (ev_dnotinN (last (s.var 4 rfl)) (s.var 6 rfl)) (by rw [lk_seen]))) (fun hb G H s => ?_) fun hb G H s => ?_
        · have hb : ¬ lst r ∈ st.1 := by simpa using hb
          have e3 : Sw.ddS st r = (st.1 ++ [lst r], st.2 ++ [r]) := if_neg hb
          refine q_seq (st_dputN (x := true) (k := lst r) s rfl (by rw [List.length_map]; omega) ?_ (fun s => ev_ltrue) (fun s => last (s.var 4 rfl)) fun G H s => ?_)
          · have z := lk_seen (xs := st.1) (i := lst r)
            rw [decide_eq_false hb] at z
            cases c : lk (st.1.map fun x => (x, true)) (lst r) with
            | none => rfl
            | some x =>
              rw [c] at z
              cases z
          dsimp only
          refine st_app (d := enc r) s rfl (by rw [List.length_map]; omega) (fun s => s.var 4 rfl) fun G H s => ?_
          refine ⟨G, s.weak (.same (.same (.eqL ?_ (.same (.un (.un (.eqO ?_ .nil)))))))⟩
          · rw [nx, e3, List.map_append]
            rfl
          · rw [nx, e3, List.map_append]
            rfl
        · have hb : lst r ∈ st.1 := by simpa using hb
          have e3 : Sw.ddS st r = st := if_pos hb
          refine ⟨G, s.weak (.same (.same (.eqL ?_ (.same (.un (.un (.eqO ?_ .nil)))))))⟩
          · rw [nx, e3]
          · rw [nx, e3]
      · rw [List.take_length] at s
        exact ⟨(Sw.nxt S b rows, k + 1), G, by show 13 - (k + 1) < 13 - k; omega, ⟨Lnx, up⟩, s.weak (.same (.same (.same (.un (.un (.un (.un .nil)))))))⟩
  · obtain ⟨rows, k⟩ := c
    obtain ⟨L, hm⟩ := ok
    dsimp only at L hm s ht
    have e : rows = [] := by simpa using ht
    rw [Sw.rise_none hs h2 (Sw.lvl_none hs L hm e)] at q
    dsimp only
    exact st_ret s (fun s => ev_none) q
end
end Pg

set_option Elab.async false
set_option linter.all false
set_option maxRecDepth 100000
namespace Sw
/-- all pairs of n things -/
def evP (n : Nat) (i : Nat) : List (Int × Int) := ((rngI 1 (n : Int)).take i).flatMap fun l => (rngI (l + 1) ((n : Int) + 1)).map fun h => (l, h)
def everyP (n : Nat) : List (Int × Int) := (rngI 1 (n : Int)).flatMap fun l => (rngI (l + 1) ((n : Int) + 1)).map fun h => (l, h)
theorem evP_len {n : Nat} (h : n ≤ 12) (i : Nat) : (evP n i).length ≤ 144 := by
  have key : ∀ (l : List Int), (∀ x ∈ l, 1 ≤ x) → (l.flatMap fun l => (rngI (l + 1) ((n : Int) + 1)).map fun h => (l, h)).length ≤ l.length * 12 := by
    intro l
    induction l with
    | nil => intro _; simp
    | cons x l ih =>
      intro hx
      have h1 := ih fun y hy => hx y (List.mem_cons_of_mem _ hy)
      have h2 := hx x List.mem_cons_self
      rw [List.flatMap_cons, List.length_append, List.length_cons, List.length_map, len_rngI]
      omega
  have q := key ((rngI 1 (n : Int)).take i) fun x hx => (mem_rngI.mp (List.mem_of_mem_take hx)).1
  have q2 : ((rngI 1 (n : Int)).take i).length ≤ 12 := by
    rw [List.length_take, len_rngI]
    omega
  unfold evP
  omega
theorem mem_everyP {n : Nat} {a b : Int} : (a, b) ∈ everyP n ↔ 1 ≤ a ∧ a < b ∧ b ≤ (n : Int) := by
  unfold everyP
  rw [List.mem_flatMap]
  constructor
  · rintro ⟨l, hl, h⟩
    obtain ⟨x, hx, e⟩ := List.mem_map.mp h
    injection e with e1 e2
    subst e1 e2
    have h1 := mem_rngI.mp hl
    have h2 := mem_rngI.mp hx
    omega
  · rintro ⟨h1, h2, h3⟩
    exact ⟨a, mem_rngI.mpr (by omega), List.mem_map.mpr ⟨b, mem_rngI.mpr (by omega), rfl⟩⟩
end Sw
namespace Pg
open PySem PySem.Spec PySem.Calls PyProof.Rows L2 LamX NdefX Ed
open Ed.Enc (enc)
abbrev sEvery : Stmt := topS 35
theorem scEvery : FnScope ["_law_many", "_law_found", "_law_low", "_law_high"] ["_law_many"] (defScope sEvery) := ⟨rfl, rfl, rfl, by decide +kernel, rfl, by decide +kernel, by decide +kernel⟩
section
variable {P : Program} {w : World} {K : PySem.W.Frag} {mg : Str → Option Value} {base : Heap} {T : Tbs} {f f1 f2 f3 f4 f5 f6 f7 f8 c Pt : Addr} {fd d1 d2 d3 d4 d5 d6 d7 d8 : FuncData}
def spEvery (T : Tbs) : Sp := fun vs H Q E => ∃ (n : Nat), n ≤ 12 ∧ Prom T [IsE (n : Int)] (IsE (Sw.everyP n)) vs H Q E
theorem ok_every (F : Fun K "_law_every" "_law_every" sEvery f fd) (B : Bi mg) : FnOk P w K mg base CX0 1 f fd ["_law_many"] (spEvery T) := by
  refine F.ok scEvery (fun vs H Q E h => ?_) (fun cdv A outer s H vs Q E hr h => ?_)
  · obtain ⟨n, _, G, kk, w, _⟩ := h
    exact allR_len w
  · obtain ⟨n, hn, G, kk, w, q⟩ := h
    obtain ⟨v, rfl, w0⟩ := allR1 w
    refine ⟨_, pss_cons (ps_set (i := 1) scEvery.nd rfl (.inl rfl) (pe_lst pa_nil))
      (pss_cons (ps_for PassesOwn.never rfl (pi_range2 (by rfl) B.range (pa_cons pe_int (pa_cons (pv 0) pa_nil))) (pg_name (i := 2) scEvery.nd rfl (.inr rfl))
        (pss_one (ps_set (i := 1) scEvery.nd rfl (.inl rfl) (pe_op op_cat (pv 1) (pe_lc (own := [("_law_high", 3)]) rfl scEvery.nd (pi_range2 (by rfl) B.range (pa_cons (pe_op op_add (pv 2) pe_int) (pa_cons (pe_op op_add (pv 0) pe_int) pa_nil)))
          (blkOk_by (own := [("_law_high", 3)]) (N := ["_law_many", "_law_found", "_law_low", "_law_high"]) (sc := defScope sEvery) (by decide +kernel)) (fun _ _ _ _ _ => pg_name (i := 3) scEvery.nd rfl (.inl rfl)) (fun _ _ _ _ _ => pts_nil) (fun _ _ _ _ _ => pe_tup (pa_cons (pv 2) (pa_cons (pv 3) pa_nil))))))))
      (pss_one (ps_ret (pv 1)))), ?_⟩
    refine q_asg kk (EvN.ev (en_lst (α := Int × Int) (xs := []) ea_nil (by decide))) fun vf G1 H1 n1 r1 => ?_
    refine q_for n1.kn (srcs_rng2 (ev_int (i := 1)) (ev_var (i := 0) rfl (isD_ex.ex n1.ex w0)) (by omega)) (fun i σ' G' H' => ∃ vf y2, σ' = [some v, some vf, y2, none] ∧ Nx T G H G' H' ∧ IsE (Sw.evP n i) G' vf)
      (fun G2 H2 n2 => ⟨vf, none, rfl, n1.trans n2, isD_ex.ex n2.ex r1⟩) (fun G2 i x vx σ' G' H' e2 hx e' k' rx hw => ?_) fun σ' G' H' e' k' hw => ?_
    · obtain ⟨vf, y2, rfl, n3, r3⟩ := hw
      obtain ⟨ex, hxl⟩ := rng_at hx
      have w3 := isD_ex.ex n3.ex w0
      have ll := Sw.evP_len hn i
      have eS : Sw.evP n (i + 1) = Sw.evP n i ++ (Sw.rngI (x + 1) ((n : Int) + 1)).map fun h => (x, h) := by
        unfold Sw.evP
        rw [Sw.takeS hx, List.flatMap_append, List.flatMap_singleton]
      rw [eS]
      refine s_asg (i := 1) k' (EvN.ev (en_cat (ev_var (i := 1) rfl r3) (EvN.ev (EvN.to (en_lc (xs := Sw.rngI (x + 1) ((n : Int) + 1)) (fun _ : Int => true) (fun h => (x, h)) (fun a G' σ2 => ∃ u, σ2 = [some v, some vf, some vx, some u] ∧ IsE a G' u)
        (src_rng2 (ev_add (ev_var (i := 2) rfl rx) (ev_int (i := 1))) (ev_add (ev_var (i := 0) rfl w3) (ev_int (i := 1))) (by omega)) (by rw [Sw.len_rngI]; omega) (fun a _ G' e => tgt_name) (fun a G' σ2 z => ?_) (fun _ _ _ _ _ _ => et_yes) (fun a ha _ G' σ2 e z => ?_)) (ys := (Sw.rngI (x + 1) ((n : Int) + 1)).map fun h => (x, h)) (by rw [List.filter_eq_self.mpr (fun _ _ => rfl)])))
        (by rw [List.length_map, Sw.len_rngI]; omega))) fun v5 G5 H5 n5 r5 => ?_
      · obtain ⟨u, rfl, _⟩ := z
        rfl
      · obtain ⟨u, rfl, ru⟩ := z
        exact ev_pair (ev_var (i := 2) rfl (isD_ex.ex e rx)) (ev_var (i := 3) rfl ru)
      · exact ⟨G5, e'.trans n5.ex, n5.kn, v5, some vx, rfl, n3.trans n5, r5⟩
    · obtain ⟨vf, y2, rfl, n3, r3⟩ := hw
      have en : Sw.evP n (Sw.rngI 1 (n : Int)).length = Sw.everyP n := by
        unfold Sw.evP Sw.everyP
        rw [List.take_length]
      rw [en] at r3
      exact ⟨vf, rfl, q vf G' H' n3 r3⟩
end
end Pg

set_option Elab.async false
set_option linter.all false
set_option maxRecDepth 100000
namespace Ed
open PySem PySem.Spec PySem.Calls PyProof.Rows L2 LamX NdefX
open Ed.Enc (enc)
/-- a row, or None -/
def IsO (o : Option (List Int)) : Rp := match o with
  | some r => IsE r
  | none => IsV .non
section
variable {T : Tbs} {K : PySem.W.Frag} {σ : L2.St} {G G2 H : Hp} {ta tb te tl : TE} {t u : TT} {R R' R'' : Rp} {α β γ : Type} [Enc α] [Enc β] [Enc γ] {x : α} {y : β}
theorem isO_ex {o : Option (List Int)} : Mono (IsO o) := by
  cases o with
  | none => exact isV_ex
  | some r => exact isD_ex
theorem ix_tupK2 {X : Cx} (h : X.K = K) : IxR X (rIxT K) := h ▸ ix_tup
theorem ev_snd2 (h : Ev T te σ G (x, y)) : Ev T (tOp (rIxT K) te (tC (.int 1))) σ G y := ev_op isD_ex isD_ex h (ev_int (i := 1)) fun u v G1 H1 _ k rx ry Q q => by
  have rx : Dq G1 u (.tuple [enc x, enc y]) := rx
  cases rx with
  | @tup a vs _ h1 h2 =>
    cases h2 with
    | cons r1 h3 =>
      cases h3 with
      | cons r2 h4 =>
        cases h4
        exact ⟨a, _, 1, _, rfl, dq_int ry, .inl (.inl (k.le _ _ h1)), rfl, q _ G1 H1 (Nx.refl k) r2⟩
end
end Ed
namespace Pg
open PySem PySem.Spec PySem.Calls PyProof.Rows L2 LamX NdefX Ed
open Ed.Enc (enc)
abbrev sMade : Stmt := topS 30
abbrev nMade : List Str := ["_law_pairs", "_law_many", "_law_found", "_law_thing", "_law_behind", "_law_at", "_law_pair"]
theorem scMade : FnScope nMade ["_law_pairs", "_law_many"] (defScope sMade) := ⟨rfl, rfl, rfl, by decide +kernel, rfl, by decide +kernel, by decide +kernel⟩
section
variable {P : Program} {w : World} {K : PySem.W.Frag} {mg : Str → Option Value} {base : Heap} {T : Tbs} {f f1 f2 f3 f4 f5 f6 f7 f8 c Pt : Addr} {fd d1 d2 d3 d4 d5 d6 d7 d8 : FuncData}
def spMade (T : Tbs) : Sp := fun vs H Q E => ∃ (ps : List (Int × Int)) (n : Nat), (ps.length ≤ 20000 ∧ n ≤ 12) ∧ Prom T [IsE ps, IsE (n : Int)] (IsO (if decide (Sw.tp (Sw.madeC ps n) = Sw.srtP ps) = true then some (Sw.madeC ps n) else none)) vs H Q E
theorem ok_made (F : Fun K "_law_made" "_law_made" sMade f fd) (B : Bi mg) (bm : mg "max" = none) (D1 : Df P w K mg base "_law_turned" 1 f1 d1 ["_law_row_here"] (spTurned T)) : FnOk P w K mg base CX0 2 f fd ["_law_pairs", "_law_many"] (spMade T) := by
  refine F.ok scMade (fun vs H Q E h => ?_) (fun cdv A outer s H vs Q E hr h => ?_)
  · obtain ⟨ps, n, _, G, kk, w, _⟩ := h
    exact allR_len w
  · obtain ⟨ps, n, hb, G, kk, w, q⟩ := h
    obtain ⟨v, v', rfl, w1, w2⟩ := allR2 w
    obtain ⟨hl, hn⟩ := hb
    refine ⟨_, pss_cons (ps_set (i := 2) scMade.nd rfl (.inl rfl) (pe_lst pa_nil))
      (pss_cons (ps_for PassesOwn.never rfl (pi_range2 (by rfl) B.range (pa_cons pe_int (pa_cons (pe_op op_add (pv 1) pe_int) pa_nil))) (pg_name (i := 3) scMade.nd rfl (.inr rfl))
        (pss_cons (ps_set (i := 4) scMade.nd rfl (.inl rfl) (pe_callB call_len_seq (by rfl) B.len PySem.boot_len (pa_cons (pe_lc (own := [("_law_pair", 6)]) rfl scMade.nd (pi_list (pv 0)) (blkOk_by (own := [("_law_pair", 6)]) (N := nMade) (sc := defScope sMade) (by decide +kernel))
          (fun _ _ _ _ _ => pg_name (i := 6) scMade.nd rfl (.inl rfl)) (fun _ _ _ _ _ => pts_one (pt_cmpR op_eq (pe_ix (ix_tupK2 (K := K) rfl) (pv 6) pe_int (fun _ _ => rfl)) (pv 3) (nomark _))) (fun _ _ _ _ _ => pv 6)) pa_nil)))
        (pss_cons (ps_set (i := 5) scMade.nd rfl (.inl rfl) (pe_callB (call_max2 rfl) (by rfl) bm (by decide +kernel) (pa_cons pe_int (pa_cons (pe_op op_sub (pe_callB call_len_seq (by rfl) B.len PySem.boot_len (pa_cons (pv 2) pa_nil)) (pv 4)) pa_nil))))
        (pss_one (ps_set (i := 2) scMade.nd rfl (.inl rfl) (pe_op op_cat (pe_op op_cat (pe_slice sl_list (pv 2) po_none (po_some (pv 5))) (pe_lst (pa_cons (pv 3) pa_nil))) (pe_slice sl_list (pv 2) (po_some (pv 5)) po_none)))))))
      (pss_one (ps_ret (pe_ifExp (pt_cmpR (op_eqD hr.units) (pe_call D1.ok hr (by rfl) D1.g D1.kp D1.bd .nil pass0 (pa_cons (pv 2) pa_nil)) (pe_callB cr_sortedPO (by rfl) B.sorted PyProof.Rows.boot_sorted (pa_cons (pv 0) pa_nil)) (nomark _)) (pv 2) pe_non)))), ?_⟩
    refine q_asg kk (EvN.ev (en_lst (α := Int) (xs := []) ea_nil (by decide))) fun vf G1 H1 n1 r1 => ?_
    refine q_for n1.kn (srcs_rng2 (ev_int (i := 1)) (ev_add (ev_var (i := 1) rfl (isD_ex.ex n1.ex w2)) (ev_int (i := 1))) (by omega)) (fun i σ' G' H' => ∃ vf y3 y4 y5, σ' = [some v, some v', some vf, y3, y4, y5, none] ∧ Nx T G H G' H' ∧ IsE (Sw.madeC ps i) G' vf)
      (fun G2 H2 n2 => ⟨vf, none, none, none, rfl, n1.trans n2, isD_ex.ex n2.ex r1⟩) (fun G2 i x vx σ' G' H' e2 hx e' k' rx hw => ?_) fun σ' G' H' e' k' hw => ?_
    · obtain ⟨vf, y3, y4, y5, rfl, n3, r3⟩ := hw
      obtain ⟨ex, hxl⟩ := rng_at hx
      have ex : x = (i : Int) + 1 := by omega
      subst ex
      have w13 := isD_ex.ex n3.ex w1
      have eS : Sw.madeC ps (i + 1) = (Sw.madeC ps i).take ((Sw.madeC ps i).length - (ps.filter fun p => decide (p.2 = (i : Int) + 1)).length) ++ [((i : Int) + 1)] ++ (Sw.madeC ps i).drop ((Sw.madeC ps i).length - (ps.filter fun p => decide (p.2 = (i : Int) + 1)).length) := rfl
      have fl := (Sw.madeC_row ps i).len
      rw [eS]
      generalize Sw.madeC ps i = fo at r3 fl
      refine q_asg k' (ev_len (EvN.ev (EvN.to (en_lc (xs := ps) (fun p : Int × Int => decide (p.2 = (i : Int) + 1)) (fun p => p) (fun p G' σ2 => ∃ u, σ2 = [some v, some v', some vf, some vx, y4, y5, some u] ∧ IsE p G' u)
        (src_list (ev_var (i := 0) rfl w13)) (by omega) (fun p _ G' e => tgt_name) (fun p G' σ2 z => ?_) (fun p hp G' σ2 e z => ?_) (fun p hp _ G' σ2 e z => ?_)) (ys := ps.filter fun p => decide (p.2 = (i : Int) + 1)) (by rw [List.map_id'])))) fun v4 G4 H4 n4 r4 => ?_
      · obtain ⟨u, rfl, _⟩ := z
        rfl
      · obtain ⟨u, rfl, ru⟩ := z
        exact et_test (ev_eqI (ev_snd2 (x := p.1) (y := p.2) (ev_var (i := 6) rfl ru)) (ev_var (i := 3) rfl (isD_ex.ex e rx)))
      · obtain ⟨u, rfl, ru⟩ := z
        exact ev_var (i := 6) rfl ru
      generalize (ps.filter fun p => decide (p.2 = (i : Int) + 1)).length = bh at r4
      have r34 := isD_ex.ex n4.ex r3
      refine q_asg n4.kn (Ev.to (y := ((fo.length - bh : Nat) : Int)) (ev_max2 (ev_int (i := 0)) (ev_sub (ev_len (ev_var (i := 2) rfl r34)) (ev_var (i := 4) rfl r4))) (by omega)) fun v5 G5 H5 n5 r5 => ?_
      have r35 := isD_ex.ex n5.ex r34
      have rx5 := isD_ex.ex (n4.trans n5).ex rx
      generalize hat : fo.length - bh = at_ at r5
      have hat2 : at_ ≤ fo.length := by omega
      refine s_asg (i := 2) n5.kn (EvN.ev (en_cat (EvN.ev (en_cat (EvN.ev (EvN.to (en_sl (K := K) (ev_var (i := 2) rfl r35) eo_none (eo_some (ev_var (i := 5) rfl r5))) (cut_to hat2))) (EvN.ev (en_lst (xs := [(i : Int) + 1]) (ea1 isD_ex (ev_var (i := 3) rfl rx5)) (by show 1 ≤ 1000; decide))) (by rw [List.length_take]; show _ + 1 ≤ _; omega)))
        (EvN.ev (EvN.to (en_sl (K := K) (ev_var (i := 2) rfl r35) (eo_some (ev_var (i := 5) rfl r5)) eo_none) cut_from)) (by rw [List.length_append, List.length_take, List.length_drop]; show _ + 1 + _ ≤ _; omega))) fun v6 G6 H6 n6 r6 => ?_
      exact ⟨G6, e'.trans ((n4.trans n5).trans n6).ex, n6.kn, v6, some vx, some v4, some v5, rfl, ((n3.trans n4).trans n5).trans n6, r6⟩
    · obtain ⟨vf, y3, y4, y5, rfl, n3, r3⟩ := hw
      have ln : (Sw.rngI 1 ((n : Int) + 1)).length = n := by
        rw [Sw.len_rngI]
        omega
      rw [ln] at r3
      have fl := (Sw.madeC_row ps n).len
      refine s_ret (R := IsO (if decide (Sw.tp (Sw.madeC ps n) = Sw.srtP ps) = true then some (Sw.madeC ps n) else none)) n3.kn (ev_if (b := decide (Sw.tp (Sw.madeC ps n) = Sw.srtP ps)) isO_ex ((et_test (ev_eqD (EvN.ev (en_call (ea1 isD_ex (ev_var (i := 2) rfl r3)) fun vs H Q E h => ⟨_, by omega, h⟩)) (EvN.ev (en_sortedP (ev_var (i := 0) rfl (isD_ex.ex n3.ex w1)))))).to (decide_eq_decide.mpr Iff.rfl))
        (fun hb => by rw [if_pos hb]; exact ev_var (i := 2) rfl r3) fun hb => by rw [if_neg (by rw [hb]; decide)]; exact ev_c) fun v9 G9 H9 n9 r9 => q v9 G9 H9 (n3.trans n9) r9
end
end Pg

set_option Elab.async false
set_option linter.all false
set_option maxRecDepth 100000
namespace Pg
open PySem PySem.Spec PySem.Calls PyProof.Rows L2 LamX NdefX Ed
open Ed.Enc (enc)
abbrev sStraight : Stmt := topS 36
theorem scStraight : FnScope ["_law_row_here", "_law_some", "_law_pair"] ["_law_row_here"] (defScope sStraight) := ⟨rfl, rfl, rfl, by decide +kernel, rfl, by decide +kernel, by decide +kernel⟩
section
variable {P : Program} {w : World} {K : PySem.W.Frag} {mg : Str → Option Value} {base : Heap} {T : Tbs} {f f1 f2 f3 f4 f5 f6 f7 f8 c Pt : Addr} {fd d1 d2 d3 d4 d5 d6 d7 d8 : FuncData}
def spStraight (T : Tbs) : Sp := fun vs H Q E => ∃ (n : Nat) (r : List Int), (n ≤ 12 ∧ Sw.Row n r) ∧ PromN T [IsE r] ((Sw.everyP n).filter fun p => !decide (p ∈ Sw.tp r)) vs H Q E
theorem ok_straight (F : Fun K "_law_straight" "_law_straight" sStraight f fd) (B : Bi mg) (D1 : Df P w K mg base "_law_turned" 1 f1 d1 ["_law_row_here"] (spTurned T)) (D2 : Df P w K mg base "_law_every" 1 f2 d2 ["_law_many"] (spEvery T)) :
    FnOk P w K mg base CX0 2 f fd ["_law_row_here"] (spStraight T) := by
  refine F.ok scStraight (fun vs H Q E h => ?_) (fun cdv A outer s H vs Q E hr h => ?_)
  · obtain ⟨n, r, _, G, kk, w, _⟩ := h
    exact allR_len w
  · obtain ⟨n, r, ⟨hn, R⟩, G, kk, w, q⟩ := h
    obtain ⟨v, rfl, w0⟩ := allR1 w
    have rl := R.len
    refine ⟨_, pss_cons (ps_set (i := 1) scStraight.nd rfl (.inr rfl) (pe_call D1.ok hr (by rfl) D1.g D1.kp D1.bd .nil pass0 (pa_cons (pv 0) pa_nil)))
      (pss_one (ps_ret (pe_lc (own := [("_law_pair", 2)]) rfl scStraight.nd (pi_list (pe_call D2.ok hr (by rfl) D2.g D2.kp D2.bd .nil pass0 (pa_cons (pe_callB call_len_seq (by rfl) B.len PySem.boot_len (pa_cons (pv 0) pa_nil)) pa_nil)))
        (blkOk_by (own := [("_law_pair", 2)]) (N := ["_law_row_here", "_law_some", "_law_pair"]) (sc := defScope sStraight) (by decide +kernel)) (fun _ _ _ _ _ => pg_name (i := 2) scStraight.nd rfl (.inl rfl))
        (fun _ _ _ _ _ => pts_one (pt_cmpR (op_notInDK (K := K) rfl (hu65 hr)) (pv 2) (pv 1) (by rfl))) (fun _ _ _ _ _ => pv 2)))), ?_⟩
    refine q_asg kk (EvN.ev (en_call (xs := Sw.tp r) (ea1 isD_ex (ev_var (i := 0) rfl w0)) fun vs H Q E h => ⟨r, by omega, h⟩)) fun v1 G1 H1 n1 r1 => ?_
    have el : (Sw.everyP n).length ≤ 144 := by
      have q := Sw.evP_len hn (Sw.rngI 1 (n : Int)).length
      unfold Sw.evP at q
      rw [List.take_length] at q
      exact q
    refine s_retN n1.kn (EvN.to (en_lc (xs := Sw.everyP n) (fun p : Int × Int => !decide (p ∈ Sw.tp r)) (fun p => p) (fun p G' σ2 => ∃ u, σ2 = [some v, some v1, some u] ∧ IsE p G' u)
      (src_list (ev_call (ea1 isD_ex ((ev_len (ev_var (i := 0) rfl (isD_ex.ex n1.ex w0))).to (congrArg Int.ofNat rl))) fun vs H Q E h => ⟨n, hn, h⟩)) (by omega) (fun p _ G' e => tgt_name) (fun p G' σ2 z => ?_) (fun p _ G' σ2 e z => ?_) (fun p _ _ G' σ2 e z => ?_)) (by rw [List.map_id']))
      fun p vs G2 H2 n2 h0 hG hp r2 => q p vs G2 H2 (n1.trans n2) (n1.dom p h0) hG hp r2
    · obtain ⟨u, rfl, _⟩ := z
      rfl
    · obtain ⟨u, rfl, ru⟩ := z
      exact (et_test (ev_notInD (ev_var (i := 2) rfl ru) (ev_var (i := 1) rfl (isD_ex.ex e r1)))).to (congrArg not (decide_eq_decide.mpr Iff.rfl))
    · obtain ⟨u, rfl, ru⟩ := z
      exact ev_var (i := 2) rfl ru
end
end Pg

set_option Elab.async false
set_option linter.all false
set_option maxRecDepth 100000
namespace Pg
open PySem PySem.Spec PySem.Calls PyProof.Rows L2 LamX NdefX Ed Ho
open Ed.Enc (enc)
abbrev s__law_is_list : Stmt := topS 33
theorem sc__law_is_list : FnScope ["_law_found", "_law_due", "_law_one"] ["_law_found", "_law_due"] (defScope s__law_is_list) := ⟨rfl, rfl, rfl, by decide +kernel, rfl, by decide +kernel, by decide +kernel⟩
section
variable {P : Program} {w : World} {K : PySem.W.Frag} {mg : Str → Option Value} {base : Heap} {T : Tbs} {f f1 f2 f3 f4 : Addr} {fd d1 d2 d3 d4 : FuncData} {σ : L2.St} {G : Hp} {ta tb tc td : TE} {E : XK}
theorem ev_draw {ns : List Int} {k : Int} (hl : ns.length ≤ 1000) (ha : EvR T ta σ G (IsS K ns)) (hb : Ev T tb σ G k) (h0 : 0 ≤ k := by omega) (h1 : k ≤ 1000 := by omega) : Ev T (tCall (spDraw T K) [] E (tCons ta (tCons tb tNil))) σ G (Sw.drw ns k) :=
  ev_call (ea2 isS_ex isD_ex ha hb) fun vs H Q E h => ⟨ns, k, ⟨hl, h0, h1⟩, h⟩
theorem en_lrow {ns : List Int} {k : Int} {n : Nat} (hl : ns.length ≤ 1000) (ha : EvR T ta σ G (IsS K ns)) (hb : Ev T tb σ G k) (hc : Ev T tc σ G (n : Int)) (hn : n ≤ 12) (h0 : 0 ≤ k := by omega) (h1 : k ≤ 900 := by omega) : EvN T (tCall (spLRow T K) [] E (tCons ta (tCons tb (tCons tc tNil)))) σ G (Sw.lrow ns k n) :=
  en_call (ea3 isS_ex isD_ex isD_ex ha hb hc) fun vs H Q E h => ⟨ns, k, n, ⟨hl, h0, h1, hn⟩, h⟩
abbrev spIsL (T : Tbs) : Sp := Sp1 T (fun ((r, s) : List Int × List Int) => r.length ≤ 50000) (fun (r, s) => [IsE r, IsE s]) (fun (r, s) => .val (IsE (decide (r = s))))
theorem ok_isl (F : Fun K "_law_is_list" "_law_is_list" s__law_is_list f fd) (B : Bi mg) : FnOk P w K mg base CX0 1 f fd ["_law_found", "_law_due"] (spIsL T) := by
  refine def_ok F sc__law_is_list (fun b => rfl) (fun b => ⟨isD_ex, isD_ex, True.intro⟩) fun ⟨r, t⟩ hl cdv A outer s0 G H σ Q E hr q s => ⟨_, (pss_cons (ps_if (PW.pt (pw_or (pt_not (pt_val (pe_callB (call_isiK2 (K := K) rfl) (by rfl) B.isinstance (by decide +kernel) (pa_cons (pv 0) (pa_cons (pe_bltn (v := .ty "list") (u := .type "list") (by rfl) B.list (by decide +kernel) rfl) pa_nil))))) (pw_or1 (pt_cmpR (op_neDK (K := K) rfl (hu64 hr)) (pv 0) (pv 1) (nomark _))))) (pss_one (ps_ret pe_bl)) pss_nil)
        (pss_one (ps_ret (pe_cmpR (op_eqDK (K := K) rfl (hu64 hr)) (pe_lc (own := [("_law_one", 2)]) rfl sc__law_is_list.nd (pi_listK (K := K) rfl (pv 0)) (blkOk_by (own := [("_law_one", 2)]) (N := ["_law_found", "_law_due", "_law_one"]) (sc := defScope s__law_is_list) (by decide +kernel)) (fun _ _ _ _ _ => pg_name (i := 2) sc__law_is_list.nd rfl (.inl rfl)) (fun _ _ _ _ _ => pts_one (PW.pt (pw_or (pt_val (pe_callB (call_isiK2 (K := K) rfl) (by rfl) B.isinstance (by decide +kernel) (pa_cons (pv 2) (pa_cons (pe_bltn (v := .ty "bool") (u := .type "bool") (by rfl) B.bool (by decide +kernel) rfl) pa_nil)))) (pw_or1 (pt_not (pt_val (pe_callB (call_isiK2 (K := K) rfl) (by rfl) B.isinstance (by decide +kernel) (pa_cons (pv 2) (pa_cons (pe_bltn (v := .ty "int") (u := .type "int") (by rfl) B.int (by decide +kernel) rfl) pa_nil))))))))) (fun _ _ _ _ _ => (pv 2))) (pe_lst pa_nil) (nomark _))))), ?_⟩
  have hl : r.length ≤ 50000 := hl
  refine q_seq (st_if s (b := !decide (r = t)) (fun s => et_or (a := false) (b := !decide (r = t)) (et_not (et_B (ev_isi (b := true) isD_ex (s.var 0 rfl) fun v G' H' e r => ⟨"list", ty_list e r, by decide +kernel⟩))) fun _ => et_test (ev_neD (s.var 0 rfl) (s.var 1 rfl))) (fun hb G H s => ?_) fun hb G H s => ?_)
  · refine st_ret s (fun s => ev_bool.to ?_) q
    rw [Bool.not_eq_true'] at hb
    exact hb.symm
  · refine st_ret s (fun s => Ev.to (ev_eqD (EvN.ev (EvN.to (en_lcF (xs := r) s (fun _ => false || !true) (src_l (s.var 0 rfl)) tgc_name hl (fun p hp {σ G} s => ?_) fun p hp {σ G} s => s.var 2 rfl) (ys := []) ?_)) (EvN.ev en_nil)) ?_) q
    · exact et_or (et_B (ev_isi (b := false) isD_ex (s.var 2 rfl) fun v G' H' e r => ⟨"int", ty_int r, by decide +kernel⟩)) fun _ => et_not (et_B (ev_isi (b := true) isD_ex (s.var 2 rfl) fun v G' H' e r => ⟨"int", ty_int r, by decide +kernel⟩))
    · exact List.filter_eq_nil_iff.mpr fun _ _ => by decide
    · have hb : (!decide (r = t)) = false := hb
      rw [Bool.not_eq_false'] at hb
      rw [hb]
      rfl
theorem ev_isl {r t : List Int} (hl : r.length ≤ 50000) (ha : Ev T ta σ G r) (hb : Ev T tb σ G t) : Ev T (tCall (spIsL T) [] E (tCons ta (tCons tb tNil))) σ G (decide (r = t)) := ev_call1 (r, t) hl (ea2 isD_ex isD_ex ha hb)
abbrev spLWord (T : Tbs) (K : PySem.W.Frag) : Sp := Sp1 T (fun ((ns, k, m, t) : List Int × Int × Int × Int) => ns.length ≤ 1000 ∧ 0 ≤ k ∧ 1 ≤ m ∧ m ≤ 12 ∧ 0 ≤ t ∧ k + t + 1 ≤ 1000) (fun (ns, k, m, t) => [IsS K ns, IsE k, IsE m, IsE t]) (fun (ns, k, m, t) => .new (OL ((Sw.lword ns k m t).map enc)))
theorem en_lword {ns : List Int} {k m t : Int} (hl : ns.length ≤ 1000) (ha : EvR T ta σ G (IsS K ns)) (hb : Ev T tb σ G k) (hc : Ev T tc σ G m) (hd : Ev T td σ G t) (m0 : 1 ≤ m) (m1 : m ≤ 12) (h0 : 0 ≤ k := by omega) (t0 : 0 ≤ t := by omega) (kt : k + t + 1 ≤ 1000 := by omega) : EvN T (tCall (spLWord T K) [] E (tCons ta (tCons tb (tCons tc (tCons td tNil))))) σ G (Sw.lword ns k m t) :=
  en_call1 (ns, k, m, t) ⟨hl, h0, m0, m1, t0, kt⟩ (ea4 isS_ex isD_ex isD_ex isD_ex ha hb hc hd)
abbrev spLSw (T : Tbs) : Sp := Sp1 T (fun ((r, p) : List Int × Int) => r.length ≤ 1000 ∧ 1 ≤ p ∧ p < (r.length : Int)) (fun (r, p) => [IsE r, IsE p]) (fun (r, p) => .new (OL ((Sw.sw r p).map enc)))
theorem en_lsw {r : List Int} {p : Int} (hl : r.length ≤ 1000) (p0 : 1 ≤ p) (p1 : p < (r.length : Int)) (ha : Ev T ta σ G r) (hb : Ev T tb σ G p) : EvN T (tCall (spLSw T) [] E (tCons ta (tCons tb tNil))) σ G (Sw.sw r p) := en_call1 (r, p) ⟨hl, p0, p1⟩ (ea2 isD_ex isD_ex ha hb)
end
end Pg

set_option Elab.async false
set_option linter.all false
set_option maxRecDepth 100000
namespace Pg
open PySem PySem.Spec PySem.Calls PyProof.Rows L2 LamX NdefX Ed Ho Sx Ru
open Ed.Enc (enc)
abbrev s_law : Stmt := topS 38
theorem sc_law : FnScope ["_law_script", "_law_k", "_law_one", "_law_other", "_law_many", "_law_both", "_law_high", "_law_loose", "_law_every_here", "_law_pair", "_law_low", "_law_turn", "_law_found", "_law_told", "_law_due"] ["_law_script"] (defScope s_law) := ⟨rfl, rfl, rfl, by decide +kernel, rfl, by decide +kernel, by decide +kernel⟩
theorem rise_congr {S S' : List (Int × Int)} (h : ∀ p, p ∈ S ↔ p ∈ S') (a b : Int) : Sw.rise S a b = Sw.rise S' a b := by
  have key : ∀ k, Sw.rz S b k = Sw.rz S' b k := by
    intro k
    induction k with
    | zero => rfl
    | succ k ih =>
      have c1 : Sw.rz S b (k + 1) = Sw.rzStep S b (b - ((k : Int) + 1)) (Sw.rz S b k) := rfl
      have c2 : Sw.rz S' b (k + 1) = Sw.rzStep S' b (b - ((k : Int) + 1)) (Sw.rz S' b k) := rfl
      rw [c1, c2, ih]
      have nx : Sw.nexts S (Sw.rz S' b k) (b - ((k : Int) + 1)) b = Sw.nexts S' (Sw.rz S' b k) (b - ((k : Int) + 1)) b := by
        unfold Sw.nexts
        refine List.filter_congr fun x _ => ?_
        rw [decide_eq_decide.mpr (h _)]
      unfold Sw.rzStep
      rw [nx]
  unfold Sw.rise
  rw [key]
theorem nodup_every (n : Nat) : (Sw.everyP n).Nodup := by
  have key : ∀ ls : List Int, ls.Nodup → (ls.flatMap fun l => (Sw.rngI (l + 1) ((n : Int) + 1)).map fun h => (l, h)).Nodup := by
    intro ls
    induction ls with
    | nil => intro _; exact List.nodup_nil
    | cons l ls ih =>
      intro nd
      obtain ⟨n1, n2⟩ := List.nodup_cons.mp nd
      rw [List.flatMap_cons]
      refine List.nodup_append.mpr ⟨?_, ih n2, fun x hx y hy e => ?_⟩
      · refine List.pairwise_map.mpr ((Sw.nodup_rngI _ _).imp fun {x y} ne e => ne ?_)
        injection e with _ e2
      · subst e
        obtain ⟨u, _, e1⟩ := List.mem_map.mp hx
        obtain ⟨l2, h2, hy⟩ := List.mem_flatMap.mp hy
        obtain ⟨v, _, e2⟩ := List.mem_map.mp hy
        have z : l = l2 := by
          rw [← e1] at e2
          injection e2 with z _
          exact z.symm
        subst z
        exact n1 h2
  exact key _ (Sw.nodup_rngI _ _)
theorem every_len {n : Nat} (h : n ≤ 12) : (Sw.everyP n).length ≤ 144 := by
  have z := Sw.evP_len h (Sw.rngI 1 (n : Int)).length
  unfold Sw.evP at z
  rw [List.take_length] at z
  exact z
section
variable {P : Program} {w : World} {K : PySem.W.Frag} {mg : Str → Option Value} {base : Heap} {T : Tbs} {f f1 f2 f3 f4 f5 f6 f7 f8 f9 fa fb : Addr} {fd d1 d2 d3 d4 d5 d6 d7 d8 d9 da db : FuncData} {σ : L2.St} {G : Hp} {ta tb tc td : TE} {E : XK}
theorem en_turned3 {r : List Int} (hl : r.length ≤ 12) (ha : Ev T ta σ G r) : EvN T (tCall (spTurned T) [] E (tCons ta tNil)) σ G (Sw.tp r) := en_call (ea1 isD_ex ha) fun vs H Q E h => ⟨r, hl, h⟩
theorem ev_ltwo {ns : List Int} {k m : Int} (hl : ns.length ≤ 1000) (ha : EvR T ta σ G (IsS K ns)) (hb : Ev T tb σ G k) (hc : Ev T tc σ G m) (k0 : 0 ≤ k := by omega) (k1 : k ≤ 800 := by omega) (m0 : 1 ≤ m := by omega) (m1 : m ≤ 12 := by omega) : Ev T (tCall (spLTwo T K) [] E (tCons ta (tCons tb (tCons tc tNil)))) σ G (Sw.gone ns k m, Sw.gother ns k m) := ev_call (ea3 isS_ex isD_ex isD_ex ha hb hc) fun vs H Q E h => ⟨ns, k, m, ⟨hl, k0, k1, m0, m1⟩, h⟩
theorem ev_as {R R' : Rp} (h : EvR T ta σ G R) (f : ∀ G v, R G v → R' G v) : EvR T ta σ G R' := fun H k Q q => h H k Q fun v G2 H2 n r => q v G2 H2 n (f G2 v r)
theorem ev_some' {xs : List Int} (h : Ev T ta σ G xs) : Ev T ta σ G (some xs) := h
theorem en_join {n : Nat} {r t : List Int} (R : Sw.Row n r) (S : Sw.Row n t) (h1 : 1 ≤ n) (h2 : n ≤ 12) (ha : Ev T ta σ G r) (hb : Ev T tb σ G t) : EvN T (tCall (spJoin T) [] E (tCons ta (tCons tb tNil))) σ G (Sw.jn r t) := en_call (ea2 isD_ex isD_ex ha hb) fun vs H Q E h => ⟨n, r, t, R, S, h1, h2, h⟩
theorem en_meet {n : Nat} {r t : List Int} (R : Sw.Row n r) (S : Sw.Row n t) (h1 : 1 ≤ n) (h2 : n ≤ 12) (ha : Ev T ta σ G r) (hb : Ev T tb σ G t) : EvN T (tCall (spMeet T) [] E (tCons ta (tCons tb tNil))) σ G (Sw.mt r t) := en_call (ea2 isD_ex isD_ex ha hb) fun vs H Q E h => ⟨n, r, t, R, S, h1, h2, h⟩
theorem ev_made4 {ps : List (Int × Int)} {n : Nat} {r : List Int} (hl : ps.length ≤ 20000) (hn : n ≤ 12) (h : Sw.tp (Sw.madeC ps n) = Sw.srtP ps) (e : Sw.madeC ps n = r) (ha : Ev T ta σ G ps) (hb : Ev T tb σ G (n : Int)) : Ev T (tCall (spMade T) [] E (tCons ta (tCons tb tNil))) σ G r := by
  have z : EvR T (tCall (spMade T) [] E (tCons ta (tCons tb tNil))) σ G (IsO (if decide (Sw.tp (Sw.madeC ps n) = Sw.srtP ps) = true then some (Sw.madeC ps n) else none)) := ev_call (ea2 isD_ex isD_ex ha hb) fun vs H Q E h => ⟨ps, n, ⟨hl, hn⟩, h⟩
  rw [if_pos (decide_eq_true h), e] at z
  exact z
theorem ev_every {n : Nat} (hn : n ≤ 12) (ha : Ev T ta σ G (n : Int)) : Ev T (tCall (spEvery T) [] E (tCons ta tNil)) σ G (Sw.everyP n) := ev_call (ea1 isD_ex ha) fun vs H Q E h => ⟨n, hn, h⟩
theorem en_straight {n : Nat} {r : List Int} (hn : n ≤ 12) (R : Sw.Row n r) (ha : Ev T ta σ G r) : EvN T (tCall (spStraight T) [] E (tCons ta tNil)) σ G ((Sw.everyP n).filter fun p => !decide (p ∈ Sw.tp r)) := en_call (ea1 isD_ex ha) fun vs H Q E h => ⟨n, r, ⟨hn, R⟩, h⟩
abbrev spLaw (T : Tbs) (K : PySem.W.Frag) : Sp := Sp1 T (fun (ns : List Int) => ns.length ≤ 1000) (fun ns => [IsS K ns]) (fun ns => .val (IsE true))
theorem ok_law (F : Fun K "law" "law" s_law f fd) (B : Bi mg) (J : Bj mg) (D__law_two : Df P w K mg base "_law_two" 3 f1 d1 ["_law_script", "_law_k", "_law_most"] (spLTwo T K)) (D__law_turned : Df P w K mg base "_law_turned" 1 f2 d2 ["_law_row_here"] (spTurned T)) (D__law_made : Df P w K mg base "_law_made" 2 f3 d3 ["_law_pairs", "_law_many"] (spMade T)) (D__law_followed : Df P w K mg base "_law_followed" 1 f4 d4 ["_law_pairs", "_law_many"] (spFol T)) (D__law_straight : Df P w K mg base "_law_straight" 2 f5 d5 ["_law_row_here"] (spStraight T)) (D__law_every : Df P w K mg base "_law_every" 1 f6 d6 ["_law_many"] (spEvery T))
    (D_join : Df P w K mg base "join" 7 f7 d7 ["one", "other"] (spJoin T)) (D_meet : Df P w K mg base "meet" 8 f8 d8 ["one", "other"] (spMeet T)) (D__law_is_list : Df P w K mg base "_law_is_list" 1 f9 d9 ["_law_found", "_law_due"] (spIsL T)) (D__law_reason : Df P w K mg base "_law_reason" 1 fa da ["_law_pairs", "_law_pair"] (spReason T)) (D_chain : Df P w K mg base "chain" 7 fb db ["one", "other", "pair"] (spChain T)) :
    FnOk P w K mg base CX0 9 f fd ["_law_script"] (spLaw T K) := by
  refine def_ok F sc_law (fun b => rfl) (fun b => ⟨isS_ex, True.intro⟩) fun ns hl cdv A outer s0 G H σ Q E hr q s => ⟨_, (pss_cons (ps_for PassesOwn.never rfl (pi_range1 (by rfl) B.range (pa_cons pe_int pa_nil)) (pg_name (i := 1) sc_law.nd rfl (.inl rfl))
          (pss_cons (ps_asg (pe_call D__law_two.ok (hr.mono (by decide)) (by rfl) D__law_two.g D__law_two.kp D__law_two.bd .nil pass0 (pa_cons (pv 0) (pa_cons (pe_op op_mul pe_int (pv 1)) (pa_cons pe_int pa_nil)))) (pg_tupK (K := K) (n := 2) rfl rfl (pgs_cons (pg_name (i := 2) sc_law.nd rfl (.inl rfl)) (pgs_cons (pg_name (i := 3) sc_law.nd rfl (.inl rfl)) pgs_nil))))
        (pss_cons (ps_set (i := 4) sc_law.nd rfl (.inl rfl) (pe_callB (call_lenK (K := K) rfl) (by rfl) B.len PySem.boot_len (pa_cons (pv 2) pa_nil)))
        (pss_cons (ps_set (i := 5) sc_law.nd rfl (.inl rfl) (pe_callB (cr_sortZK (K := K) rfl rfl) (by rfl) B.sorted PyProof.Rows.boot_sorted (pa_cons (pe_callTy (cr_setLK (K := K) rfl rfl (hu64 hr)) (by rfl) J.set (by decide +kernel) (pa_cons (pe_op op_cat (pe_call D__law_turned.ok (hr.mono (by decide)) (by rfl) D__law_turned.g D__law_turned.kp D__law_turned.bd .nil pass0 (pa_cons (pv 2) pa_nil)) (pe_call D__law_turned.ok (hr.mono (by decide)) (by rfl) D__law_turned.g D__law_turned.kp D__law_turned.bd .nil pass0 (pa_cons (pv 3) pa_nil))) pa_nil)) pa_nil)))
        (pss_cons (ps_set (i := 6) sc_law.nd rfl (.inl rfl) (pe_call D__law_made.ok (hr.mono (by decide)) (by rfl) D__law_made.g D__law_made.kp D__law_made.bd .nil pass0 (pa_cons (pe_call D__law_followed.ok (hr.mono (by decide)) (by rfl) D__law_followed.g D__law_followed.kp D__law_followed.bd .nil pass0 (pa_cons (pv 5) (pa_cons (pv 4) pa_nil))) (pa_cons (pv 4) pa_nil))))
        (pss_cons (ps_set (i := 7) sc_law.nd rfl (.inr rfl) (pe_call D__law_followed.ok (hr.mono (by decide)) (by rfl) D__law_followed.g D__law_followed.kp D__law_followed.bd .nil pass0 (pa_cons (pe_op op_cat (pe_call D__law_straight.ok (hr.mono (by decide)) (by rfl) D__law_straight.g D__law_straight.kp D__law_straight.bd .nil pass0 (pa_cons (pv 2) pa_nil)) (pe_call D__law_straight.ok (hr.mono (by decide)) (by rfl) D__law_straight.g D__law_straight.kp D__law_straight.bd .nil pass0 (pa_cons (pv 3) pa_nil))) (pa_cons (pv 4) pa_nil))))
        (pss_cons (ps_set (i := 8) sc_law.nd rfl (.inl rfl) (pe_call D__law_every.ok (hr.mono (by decide)) (by rfl) D__law_every.g D__law_every.kp D__law_every.bd .nil pass0 (pa_cons (pv 4) pa_nil)))
        (pss_cons (ps_set (i := 10) sc_law.nd rfl (.inl rfl) (pe_call D__law_made.ok (hr.mono (by decide)) (by rfl) D__law_made.g D__law_made.kp D__law_made.bd .nil pass0 (pa_cons (pe_lc (own := [("_law_pair", 9)]) rfl sc_law.nd (pi_listK (K := K) rfl (pv 8)) (blkOk_by (own := [("_law_pair", 9)]) (N := ["_law_script", "_law_k", "_law_one", "_law_other", "_law_many", "_law_both", "_law_high", "_law_loose", "_law_every_here", "_law_pair", "_law_low", "_law_turn", "_law_found", "_law_told", "_law_due"]) (sc := defScope s_law) (by decide +kernel)) (fun _ _ _ _ _ => pg_name (i := 9) sc_law.nd rfl (.inl rfl)) (fun _ _ _ _ _ => pts_one (pt_cmpR (op_notInDK (K := K) rfl (hu65 hr)) (pv 9) (pv 7) (by rfl))) (fun _ _ _ _ _ => (pv 9))) (pa_cons (pv 4) pa_nil))))
        (pss_cons (ps_for PassesOwn.never rfl (pi_range1 (by rfl) B.range (pa_cons pe_int pa_nil)) (pg_name (i := 11) sc_law.nd rfl (.inl rfl))
          (pss_cons (ps_set (i := 12) sc_law.nd rfl (.inl rfl) (pe_call D_join.ok (hr.mono (by decide)) (by rfl) D_join.g D_join.kp D_join.bd .nil pass0 (pa_cons (pv 2) (pa_cons (pv 3) pa_nil))))
        (pss_cons (ps_set (i := 13) sc_law.nd rfl (.inl rfl) (pe_call D_meet.ok (hr.mono (by decide)) (by rfl) D_meet.g D_meet.kp D_meet.bd .nil pass0 (pa_cons (pv 2) (pa_cons (pv 3) pa_nil))))
        (pss_cons (ps_if (PW.pt (pw_or (pt_not (pt_val (pe_call D__law_is_list.ok (hr.mono (by decide)) (by rfl) D__law_is_list.g D__law_is_list.kp D__law_is_list.bd .nil pass0 (pa_cons (pv 12) (pa_cons (pv 6) pa_nil))))) (pw_or1 (pt_not (pt_val (pe_call D__law_is_list.ok (hr.mono (by decide)) (by rfl) D__law_is_list.g D__law_is_list.kp D__law_is_list.bd .nil pass0 (pa_cons (pv 13) (pa_cons (pv 10) pa_nil)))))))) (pss_one (ps_ret pe_bl)) pss_nil)
        (pss_cons (ps_expr (pe_bm PySem.F.plainAttrs_list PySem.F.slot_list_append PySem.F.type_list_append mt_append (pv 12) (pa_cons pe_int pa_nil)))
        (pss_one (ps_expr (pe_bm PySem.F.plainAttrs_list PySem.F.slot_list_append PySem.F.type_list_append mt_append (pv 13) (pa_cons pe_int pa_nil)))))))))
        (pss_one (ps_for PassesOwn.never rfl (pi_listK (K := K) rfl (pv 8)) (pg_name (i := 9) sc_law.nd rfl (.inl rfl))
          (pss_cons (ps_set (i := 14) sc_law.nd rfl (.inl rfl) (pe_call D__law_reason.ok (hr.mono (by decide)) (by rfl) D__law_reason.g D__law_reason.kp D__law_reason.bd .nil pass0 (pa_cons (pv 5) (pa_cons (pv 9) pa_nil))))
        (pss_cons (ps_set (i := 12) sc_law.nd rfl (.inl rfl) (pe_call D_chain.ok (hr.mono (by decide)) (by rfl) D_chain.g D_chain.kp D_chain.bd .nil pass0 (pa_cons (pv 2) (pa_cons (pv 3) (pa_cons (pv 9) pa_nil)))))
        (pss_cons (ps_if (PW.pt (pw_or (PW.pt (pw_and (pt_cmpR op_isN (pv 14) pe_non (nomark _)) (pw_and1 (pt_cmpR op_notN (pv 12) pe_non (nomark _))))) (pw_or1 (PW.pt (pw_and (pt_cmpR op_notN (pv 14) pe_non (nomark _)) (pw_and1 (pt_not (pt_val (pe_call D__law_is_list.ok (hr.mono (by decide)) (by rfl) D__law_is_list.g D__law_is_list.kp D__law_is_list.bd .nil pass0 (pa_cons (pv 12) (pa_cons (pv 14) pa_nil))))))))))) (pss_one (ps_ret pe_bl)) pss_nil)
        (pss_one (ps_if (pt_cmpR op_notN (pv 12) pe_non (nomark _)) (pss_cons (ps_expr (pe_bm PySem.F.plainAttrs_list PySem.F.slot_list_append PySem.F.type_list_append mt_append (pv 12) (pa_cons pe_int pa_nil)))
        (pss_one (ps_if (pt_cmpR (op_neDK (K := K) rfl (hu64 hr)) (pe_call D_chain.ok (hr.mono (by decide)) (by rfl) D_chain.g D_chain.kp D_chain.bd .nil pass0 (pa_cons (pv 2) (pa_cons (pv 3) (pa_cons (pv 9) pa_nil)))) (pv 14) (nomark _)) (pss_one (ps_ret pe_bl)) pss_nil))) pss_nil))))))))))))))))
        (pss_one (ps_ret pe_bl))), ?_⟩
  have hl : ns.length ≤ 1000 := hl
  refine q_seq (st_for (fun i => [.im (IsS K ns), .un, .un, .un, .un, .un, .un, .un, .un, .un, .un, .un, .un, .un, .un]) s (fun s => src_r1 ev_int) tgs_name ?_ (fun F' i k σ G H e hx s => ?_) fun σ G H s => ?_)
  · exact .same (.un (.un (.un (.un (.un (.un (.un (.un (.un (.un (.un (.un (.un (.un .nil))))))))))))))
  · obtain ⟨ek, hk⟩ := rng_at hx
    obtain ⟨m1, m2, m3⟩ := Sw.gmany_b (ns := ns) (k := 150 * k) (m := 12) (by decide)
    have R := Sw.gone_row (ns := ns) (k := 150 * k) (m := 12)
    have S := Sw.gother_row (ns := ns) (k := 150 * k) (m := 12)
    refine q_seq (st_asgU s (fun s => ev_ltwo hl (s.var 0 rfl) (ev_mul ev_int (s.var 1 rfl) (cmul_l (by decide) (by decide))) ev_int) tgs_pair fun σ G H s => ?_)
    dsimp only
    dsimp only at s
    generalize Sw.gone ns (150 * k) 12 = r at R s
    generalize Sw.gother ns (150 * k) 12 = t at S s
    generalize Sw.gmany ns (150 * k) 12 = n at m1 m2 R S
    have n2 : n ≤ 12 := by omega
    have rl := R.len
    have tl := S.len
    have lr := Sw.tp_66 R n2
    have lt := Sw.tp_66 S n2
    have inb := Sw.inb_uni R S
    have mb : ∀ p, p ∈ Sw.srtP (Sw.uni r t) ↔ p ∈ Sw.uni r t := fun p => (Sw.srtP_perm _).mem_iff
    have mu : ∀ a b, (a, b) ∈ Sw.srtP (Sw.uni r t) ↔ Sw.Inv r a b ∨ Sw.Inv t a b := fun a b => by rw [mb, Sw.mem_uni R S]
    have ul : (Sw.srtP (Sw.uni r t)).length ≤ 144 := by
      rw [(Sw.srtP_perm _).length_eq]
      exact Sw.inb_len n2 (Sw.nodup_uni r t) inb
    have rising : Sw.Rising (Sw.srtP (Sw.uni r t)) := by
      have nd : (Sw.srtP (Sw.uni r t)).Nodup := (Sw.srtP_perm _).nodup_iff.mpr (Sw.nodup_uni r t)
      refine ((Sw.srtP_pw (Sw.uni r t)).and nd).imp fun {p q} h => ?_
      rcases (Sw.leP_iff p q).mp h.1 with c | ⟨c1, c2⟩
      · exact .inl c
      · refine .inr ⟨c1, ?_⟩
        have : p.2 ≠ q.2 := fun e => h.2 (Prod.ext c1 e)
        omega
    refine q_seq (st_asg (R := IsE (n : Int)) s (fun s => Ev.to (ev_len (s.var 2 rfl)) (by rw [rl])) fun σ G H s => ?_)
    dsimp only
    refine q_seq (st_asg (R := IsE (Sw.srtP (Sw.uni r t))) s (fun s => EvN.ev (en_sortZ (N := (Sw.tp r ++ Sw.tp t).length) (ks := Sw.tp r ++ Sw.tp t) (ev_setL (EvN.ev (en_cat (EvN.ev (en_turned3 (by omega) (s.var 2 rfl))) (EvN.ev (en_turned3 (by omega) (s.var 3 rfl))) (by omega))) (by rw [List.length_append]; omega)) (by rw [List.length_append]; omega) rising fun p => by rw [mb]; unfold Sw.uni; exact Sw.mem_put0)) fun σ G H s => ?_)
    dsimp only
    have fj := Sw.fol_join R S mu
    have ibs : Sw.InB n (Sw.srtP (Sw.uni r t)) := fun a b h => inb a b ((mb _).mp h)
    have tj := Sw.tp_66 (Sw.jn_row (s := t) R) n2
    refine q_seq (st_asg (R := IsE (Sw.jn r t)) s (fun s => ev_made4 (ps := Sw.tp (Sw.jn r t)) (by omega) n2 (Sw.made_join_ok R S) (Sw.made_join R S) (EvN.ev (EvN.to (en_call1 (Sw.srtP (Sw.uni r t), n) ⟨by omega, n2, ibs⟩ (ea2 isD_ex isD_ex (s.var 5 rfl) (s.var 4 rfl))) fj)) (s.var 4 rfl)) fun σ G H s => ?_)
    dsimp only
    have el := every_len n2
    have me : ∀ a b, (a, b) ∈ Sw.everyP n ↔ 1 ≤ a ∧ a < b ∧ b ≤ (n : Int) := fun a b => Sw.mem_everyP
    have hq : ∀ a b, (a, b) ∈ (Sw.everyP n).filter (fun p => !decide (p ∈ Sw.tp r)) ++ (Sw.everyP n).filter (fun p => !decide (p ∈ Sw.tp t)) ↔ (1 ≤ a ∧ a < b ∧ b ≤ (n : Int)) ∧ (¬ Sw.Inv r a b ∨ ¬ Sw.Inv t a b) := fun a b => by
      rw [List.mem_append, List.mem_filter, List.mem_filter, me]
      simp only [Bool.not_eq_true', decide_eq_false_iff_not]
      rw [Sw.mem_tp R.nodup, Sw.mem_tp S.nodup]
      constructor
      · rintro (⟨x, y⟩ | ⟨x, y⟩)
        · exact ⟨x, .inl y⟩
        · exact ⟨x, .inr y⟩
      · rintro ⟨x, y | y⟩
        · exact .inl ⟨x, y⟩
        · exact .inr ⟨x, y⟩
    have li := Sw.low_inv R S hq me
    have ibq : Sw.InB n ((Sw.everyP n).filter (fun p => !decide (p ∈ Sw.tp r)) ++ (Sw.everyP n).filter (fun p => !decide (p ∈ Sw.tp t))) := fun a b h => ((hq a b).mp h).1
    have ql : ((Sw.everyP n).filter (fun p => !decide (p ∈ Sw.tp r)) ++ (Sw.everyP n).filter (fun p => !decide (p ∈ Sw.tp t))).length ≤ 288 := by
      have z1 := List.length_filter_le (fun p => !decide (p ∈ Sw.tp r)) (Sw.everyP n)
      have z2 := List.length_filter_le (fun p => !decide (p ∈ Sw.tp t)) (Sw.everyP n)
      rw [List.length_append]
      omega
    refine q_seq (st_asg (R := IsE (Sw.fol ((Sw.everyP n).filter (fun p => !decide (p ∈ Sw.tp r)) ++ (Sw.everyP n).filter (fun p => !decide (p ∈ Sw.tp t))) n)) s (fun s => EvN.ev (en_call1 (_, n) ⟨by omega, n2, ibq⟩ (ea2 isD_ex isD_ex (EvN.ev (en_cat (EvN.ev (en_straight n2 R (s.var 2 rfl))) (EvN.ev (en_straight n2 S (s.var 3 rfl))) (by rw [← List.length_append]; omega))) (s.var 4 rfl)))) fun σ G H s => ?_)
    generalize (Sw.everyP n).filter (fun p => !decide (p ∈ Sw.tp r)) ++ (Sw.everyP n).filter (fun p => !decide (p ∈ Sw.tp t)) = qs at li ibq s
    dsimp only
    refine q_seq (st_asg (R := IsE (Sw.everyP n)) s (fun s => ev_every n2 (s.var 4 rfl)) fun σ G H s => ?_)
    dsimp only
    have lnd : ((Sw.everyP n).filter fun p => !decide (p ∈ Sw.fol qs n)).Nodup := (nodup_every n).filter _
    obtain ⟨ml1, ml2⟩ := Sw.made_low R S lnd li
    have lll : ((Sw.everyP n).filter fun p => !decide (p ∈ Sw.fol qs n)).length ≤ 144 := Nat.le_trans (List.length_filter_le _ _) el
    refine q_seq (st_asg (R := IsE (Sw.mt r t)) s (fun s => ev_made4 (ps := (Sw.everyP n).filter fun p => !decide (p ∈ Sw.fol qs n)) (by omega) n2 ml1 ml2 (EvN.ev (en_lcF s (fun p => !decide (p ∈ Sw.fol qs n)) (src_l (s.var 8 rfl)) tgc_name (by omega) (fun p hp {σ G} s => et_test (Ev.to (ev_notInD (s.var 9 rfl) (s.var 7 rfl)) (congrArg Bool.not (decide_eq_decide.mpr Iff.rfl)))) fun p hp {σ G} s => s.var 9 rfl)) (s.var 4 rfl)) fun σ G H s => ?_)
    dsimp only
    have jl := (Sw.jn_row (s := t) R).len
    have tl2 := (Sw.mt_row (s := t) R).len
    refine q_seq (st_for (fun i => [.im (IsS K ns), .un, .im (IsE r), .im (IsE t), .un, .im (IsE (Sw.srtP (Sw.uni r t))), .im (IsE (Sw.jn r t)), .un, .im (IsE (Sw.everyP n)), .un, .im (IsE (Sw.mt r t)), .un, .un, .un, .un]) s (fun s => src_r1 ev_int) tgs_name ?_ (fun F2 i2 y σ G H e2 hx2 s => ?_) fun σ G H s => ?_)
    · exact .same (.un (.same (.same (.un (.same (.same (.un (.same (.un (.same (.un (.un (.un (.un .nil))))))))))))))
    · refine q_seq (st_asgN s (fun s => en_join R S m1 n2 (s.var 2 rfl) (s.var 3 rfl)) fun σ G H s => ?_)
      dsimp only
      refine q_seq (st_asgN s (fun s => en_meet R S m1 n2 (s.var 2 rfl) (s.var 3 rfl)) fun σ G H s => ?_)
      dsimp only
      refine q_seq (st_skip s (fun s => et_or (et_not (et_B (ev_isl (r := Sw.jn r t) (by omega) (s.var 12 rfl) (s.var 6 rfl)))) fun _ => et_not (et_B (ev_isl (r := Sw.mt r t) (by omega) (s.var 13 rfl) (s.var 10 rfl)))) (by simp) fun G H s => ?_)
      dsimp only
      refine q_seq (st_app s rfl (by rw [List.length_map]; omega) (fun s => ev_int) fun G H s => ?_)
      dsimp only
      refine st_app s rfl (by rw [List.length_map]; omega) (fun s => ev_int) fun G H s => ?_
      exact ⟨G, s.weak (.same (.un (.same (.same (.un (.same (.same (.un (.same (.un (.same (.un (.un (.un (.un .nil)))))))))))))))⟩
    · dsimp only
      refine st_for (fun i => [.im (IsS K ns), .un, .im (IsE r), .im (IsE t), .un, .im (IsE (Sw.srtP (Sw.uni r t))), .un, .un, .im (IsE (Sw.everyP n)), .un, .un, .un, .un, .un, .un]) s (fun s => src_l (s.var 8 rfl)) tgs_name ?_ (fun F2 i2 p σ G H e2 hx2 s => ?_) fun σ G H s => ⟨G, s.weak (.same (.un (.un (.un (.un (.un (.un (.un (.un (.un (.un (.un (.un (.un (.un .nil)))))))))))))))⟩
      · exact .same (.un (.same (.same (.un (.same (.un (.un (.same (.un (.un (.un (.un (.un (.un .nil))))))))))))))
      · obtain ⟨a, b⟩ := p
        obtain ⟨p1, p2, p3⟩ := (me a b).mp (List.mem_of_getElem? hx2)
        have same : Sw.rise (Sw.srtP (Sw.uni r t)) a b = Sw.rise (Sw.uni r t) a b := rise_congr mb a b
        have hR : (Sw.Rising (Sw.srtP (Sw.uni r t)) ∧ (∀ p ∈ Sw.srtP (Sw.uni r t), p.1 < p.2) ∧ (Sw.srtP (Sw.uni r t)).length ≤ 300) ∧ 1 ≤ a ∧ a ≤ b ∧ b ≤ 12 := ⟨⟨rising, fun p hp => (ibs p.1 p.2 hp).2.1, by omega⟩, p1, by omega, by omega⟩
        have hC : Sw.Row n r ∧ Sw.Row n t ∧ 1 ≤ n ∧ n ≤ 12 ∧ 1 ≤ a ∧ a < b ∧ b ≤ (n : Int) := ⟨R, S, m1, n2, p1, p2, p3⟩
        refine q_seq (st_asg (R := IsE (Sw.rise (Sw.uni r t) a b)) s (fun s => Ev.to (ev_call1 (Sw.srtP (Sw.uni r t), a, b) hR (ea2 isD_ex isD_ex (s.var 5 rfl) (s.var 9 rfl))) same) fun σ G H s => ?_)
        dsimp only
        cases c : Sw.rise (Sw.uni r t) a b with
        | none =>
          rw [c] at s
          refine q_seq (st_asg (R := IsE (none : Option (List Int))) s (fun s => ev_as (ev_call1 (R := IsV .non) (n, r, t, a, b) hC (ea3 isD_ex isD_ex isD_ex (s.var 2 rfl) (s.var 3 rfl) (s.var 9 rfl)) (by show outO (Sw.rise _ _ _) = _; rw [c]; rfl)) fun G v h => by
            have h : v = .non := h
            subst h
            exact .non) fun σ G H s => ?_)
          dsimp only
          refine q_seq (st_skip s (fun s => et_or (et_and (b := false) (et_test (ev_isN (s.var 14 rfl))) fun _ => et_test (ev_notN (o := (none : Option (List Int))) (s.var 12 rfl))) fun _ => et_and (b := false) (et_test (ev_notN (o := (none : Option (List Int))) (s.var 14 rfl))) fun z => by cases z) (by simp) fun G H s => ?_)
          dsimp only
          refine st_skip s (fun s => et_test (ev_notN (o := (none : Option (List Int))) (s.var 12 rfl))) rfl fun G H s => ?_
          exact ⟨G, s.weak (.same (.un (.same (.same (.un (.same (.un (.un (.same (.un (.un (.un (.un (.un (.un .nil)))))))))))))))⟩
        | some l =>
          rw [c] at s
          have best := Sw.rise_best (fun p hp => (inb p.1 p.2 hp).2.1) (by omega) c
          have bd := best.1.bound (fun p hp => (inb p.1 p.2 hp).2.1)
          have ll : l.length ≤ 20 := by omega
          have cal : ∀ {σ : L2.St} {G : Hp} {E : XK} {ta tb tc : TE}, Ev T ta σ G r → Ev T tb σ G t → Ev T tc σ G (a, b) → EvN T (tCall (spChain T) [] E (tCons ta (tCons tb (tCons tc tNil)))) σ G l := fun ha hb hc => en_call1 (n, r, t, a, b) hC (ea3 isD_ex isD_ex isD_ex ha hb hc) (by show outO (Sw.rise _ _ _) = _; rw [c]; rfl)
          refine q_seq (st_asgN (ds := l.map enc) s (fun s => cal (s.var 2 rfl) (s.var 3 rfl) (s.var 9 rfl)) fun σ G H s => ?_)
          dsimp only
          refine q_seq (st_skip s (fun s => et_or (et_and (b := false) (et_test (ev_isN (o := some l) (s.var 14 rfl))) fun z => by cases z) fun _ => et_and (et_test (ev_notN (o := some l) (s.var 14 rfl))) fun _ => et_not (et_B (ev_isl (r := l) (by omega) (s.var 12 rfl) (s.var 14 rfl)))) (by simp) fun G H s => ?_)
          dsimp only
          refine st_take s (fun s => et_test (ev_notN (o := some l) (ev_some' (s.var 12 rfl)))) rfl fun G H s => ?_
          refine q_seq (st_app s rfl (by rw [List.length_map]; omega) (fun s => ev_int) fun G H s => ?_)
          dsimp only
          refine st_skip s (fun s => et_test (ev_neD (x := some l) (y := some l) (ev_some' (EvN.ev (cal (s.var 2 rfl) (s.var 3 rfl) (s.var 9 rfl)))) (s.var 14 rfl))) (by simp) fun G H s => ?_
          exact ⟨G, s.weak (.same (.un (.same (.same (.un (.same (.un (.un (.same (.un (.un (.un (.un (.un (.un .nil)))))))))))))))⟩
  · dsimp only
    exact st_ret s (fun s => ev_ltrue) q
end
end Pg

set_option Elab.async false
set_option linter.all false
set_option maxRecDepth 100000
namespace Pg
open PySem PySem.Spec PySem.Calls PyProof.Rows L2 LamX NdefX Ed Ho
open Ed.Enc (enc)
/-- all but the tables -/
def known (H : Hp) : Hp := fun b => match H b with
  | some (.tbl _) => none
  | o => o
theorem known_ex {H : Hp} : Ex (known H) H := fun a o e => by
  unfold known at e
  split at e
  · cases e
  · exact e
theorem known_of {H : Hp} {a : Addr} {o : HO} (e : H a = some o) (nt : ∀ ps, o ≠ .tbl ps) : known H a = some o := by
  unfold known
  rw [e]
  split
  · rename_i z
    exact (nt _ (Option.some.inj z)).elim
  · rfl
theorem known_kn {T : Tbs} {H : Hp} (t : Tabs T H) : Kn T (known H) H := ⟨known_ex, fun b ps e => by
  unfold known at e
  split at e
  · cases e
  · rename_i z
    exact z ps e, t⟩
theorem known_sl {K : PySem.W.Frag} {H : Hp} {a : Addr} {xs : List V} (s : SqL K H a xs) : SqL K (known H) a xs := by
  rcases s with (s | ⟨o, s⟩) | s
  · exact .inl (.inl (known_of s nt_lst))
  · exact .inl (.inr ⟨o, known_of s fun ps z => by cases z⟩)
  · exact .inr s
theorem law_at {l : PySem.W.OpenLaw} {w : World} {K : PySem.W.Frag} {mg : Str → Option Value} {h : Heap} {fa : Addr}
    {f8 f9 f10 f11 f12 f13 f14 f15 f16 f17 f18 f19 f21 f22 f23 f24 f25 f27 f28 f29 f30 f31 f32 f33 f34 f35 f36 f37 f38 : Addr}
    {od8 an8 od9 an9 od10 an10 od11 an11 od12 an12 od13 an13 od14 an14 od15 an15 od16 an16 od17 an17 od18 an18 od19 an19 od21 an21 od22 an22 od23 an23 od24 an24 od25 an25 od27 an27 od28 an28 od29 an29 od30 an30 od31 an31 od32 an32 od33 an33 od34 an34 od35 an35 od36 an36 od37 an37 od38 an38 : Option Addr}
    {sl8 sl9 sl10 sl11 sl12 sl13 sl14 sl15 sl16 sl17 sl18 sl19 sl21 sl22 sl23 sl24 sl25 sl27 sl28 sl29 sl30 sl31 sl32 sl33 sl34 sl35 sl36 sl37 sl38 : Array (Option Value)}
    {oc8 kV8 dc8 pm8 ct8 cd8 oc9 kV9 dc9 pm9 ct9 cd9 oc10 kV10 dc10 pm10 ct10 cd10 oc11 kV11 dc11 pm11 ct11 cd11 oc12 kV12 dc12 pm12 ct12 cd12 oc13 kV13 dc13 pm13 ct13 cd13 oc14 kV14 dc14 pm14 ct14 cd14 oc15 kV15 dc15 pm15 ct15 cd15 oc16 kV16 dc16 pm16 ct16 cd16 oc17 kV17 dc17 pm17 ct17 cd17 oc18 kV18 dc18 pm18 ct18 oc19 kV19 dc19 pm19 ct19 cd19 oc21 kV21 dc21 pm21 ct21 cd21 oc22 kV22 dc22 pm22 ct22 cd22 oc23 kV23 dc23 pm23 ct23 cd23 oc24 kV24 dc24 pm24 ct24 cd24 oc25 kV25 dc25 pm25 ct25 cd25 oc27 kV27 dc27 pm27 ct27 cd27 oc28 kV28 dc28 pm28 ct28 cd28 oc29 kV29 dc29 pm29 ct29 cd29 oc30 kV30 dc30 pm30 ct30 cd30 oc31 kV31 dc31 pm31 ct31 cd31 oc32 kV32 dc32 pm32 ct32 cd32 oc33 kV33 dc33 pm33 ct33 cd33 oc34 kV34 dc34 pm34 ct34 cd34 oc35 kV35 dc35 pm35 ct35 cd35 oc36 kV36 dc36 pm36 ct36 cd36 oc37 kV37 dc37 pm37 ct37 cd37 oc38 kV38 dc38 pm38 ct38 cd38 : Value}
    {t_MOST_THINGS : Tok}
    {c18x Pt18 : Addr} {occ18 : Value} {ocd18 : Option Addr} {ocv18 : Array Value} {ocs18 : Array (Option Value)}
    (X : K.In h) (G : h.Ns mainGlobals mg) (hfa : mg "law" = some (.ref fa))
    (a8 : PySem.W.nsIn K mainGlobals "is_whole" = some (some (.ref f8))) (l8 : K.lookup f8 = some ⟨oc8, od8, .func (PySem.W.fnOf "is_whole" "is_whole" (defArgs sIsWhole) (defBody sIsWhole) (defScope sIsWhole) .none kV8 dc8 pm8 an8 (cd8) ct8), sl8⟩)
      (c8 : PySem.W.codeIn K (cd8) "is_whole" = true) (k8 : PySem.W.keepIn K (.ref f8) = true)
    (a9 : PySem.W.nsIn K mainGlobals "is_many" = some (some (.ref f9))) (l9 : K.lookup f9 = some ⟨oc9, od9, .func (PySem.W.fnOf "is_many" "is_many" (defArgs sIsMany) (defBody sIsMany) (defScope sIsMany) .none kV9 dc9 pm9 an9 (cd9) ct9), sl9⟩)
      (c9 : PySem.W.codeIn K (cd9) "is_many" = true) (k9 : PySem.W.keepIn K (.ref f9) = true)
    (a10 : PySem.W.nsIn K mainGlobals "is_row" = some (some (.ref f10))) (l10 : K.lookup f10 = some ⟨oc10, od10, .func (PySem.W.fnOf "is_row" "is_row" (defArgs sIsRow) (defBody sIsRow) (defScope sIsRow) .none kV10 dc10 pm10 an10 (cd10) ct10), sl10⟩)
      (c10 : PySem.W.codeIn K (cd10) "is_row" = true) (k10 : PySem.W.keepIn K (.ref f10) = true)
    (a11 : PySem.W.nsIn K mainGlobals "is_pair" = some (some (.ref f11))) (l11 : K.lookup f11 = some ⟨oc11, od11, .func (PySem.W.fnOf "is_pair" "is_pair" (defArgs sIsPair) (defBody sIsPair) (defScope sIsPair) .none kV11 dc11 pm11 an11 (cd11) ct11), sl11⟩)
      (c11 : PySem.W.codeIn K (cd11) "is_pair" = true) (k11 : PySem.W.keepIn K (.ref f11) = true)
    (a12 : PySem.W.nsIn K mainGlobals "check_many" = some (some (.ref f12))) (l12 : K.lookup f12 = some ⟨oc12, od12, .func (PySem.W.fnOf "check_many" "check_many" (defArgs sCheckMany) (defBody sCheckMany) (defScope sCheckMany) .none kV12 dc12 pm12 an12 (cd12) ct12), sl12⟩)
      (c12 : PySem.W.codeIn K (cd12) "check_many" = true) (k12 : PySem.W.keepIn K (.ref f12) = true)
    (a13 : PySem.W.nsIn K mainGlobals "check_row" = some (some (.ref f13))) (l13 : K.lookup f13 = some ⟨oc13, od13, .func (PySem.W.fnOf "check_row" "check_row" (defArgs sCheckRow) (defBody sCheckRow) (defScope sCheckRow) .none kV13 dc13 pm13 an13 (cd13) ct13), sl13⟩)
      (c13 : PySem.W.codeIn K (cd13) "check_row" = true) (k13 : PySem.W.keepIn K (.ref f13) = true)
    (a14 : PySem.W.nsIn K mainGlobals "check_alike" = some (some (.ref f14))) (l14 : K.lookup f14 = some ⟨oc14, od14, .func (PySem.W.fnOf "check_alike" "check_alike" (defArgs sCheckAlike) (defBody sCheckAlike) (defScope sCheckAlike) .none kV14 dc14 pm14 an14 (cd14) ct14), sl14⟩)
      (c14 : PySem.W.codeIn K (cd14) "check_alike" = true) (k14 : PySem.W.keepIn K (.ref f14) = true)
    (a15 : PySem.W.nsIn K mainGlobals "first_row" = some (some (.ref f15))) (l15 : K.lookup f15 = some ⟨oc15, od15, .func (PySem.W.fnOf "first_row" "first_row" (defArgs sFirstRow) (defBody sFirstRow) (defScope sFirstRow) .none kV15 dc15 pm15 an15 (cd15) ct15), sl15⟩)
      (c15 : PySem.W.codeIn K (cd15) "first_row" = true) (k15 : PySem.W.keepIn K (.ref f15) = true)
    (a16 : PySem.W.nsIn K mainGlobals "turned_pairs" = some (some (.ref f16))) (l16 : K.lookup f16 = some ⟨oc16, od16, .func (PySem.W.fnOf "turned_pairs" "turned_pairs" (defArgs sTurnedPairs) (defBody sTurnedPairs) (defScope sTurnedPairs) .none kV16 dc16 pm16 an16 (cd16) ct16), sl16⟩)
      (c16 : PySem.W.codeIn K (cd16) "turned_pairs" = true) (k16 : PySem.W.keepIn K (.ref f16) = true)
    (a17 : PySem.W.nsIn K mainGlobals "count_ahead" = some (some (.ref f17))) (l17 : K.lookup f17 = some ⟨oc17, od17, .func (PySem.W.fnOf "count_ahead" "count_ahead" (defArgs sCountAhead) (defBody sCountAhead) (defScope sCountAhead) .none kV17 dc17 pm17 an17 (cd17) ct17), sl17⟩)
      (c17 : PySem.W.codeIn K (cd17) "count_ahead" = true) (k17 : PySem.W.keepIn K (.ref f17) = true)
    (a18 : PySem.W.nsIn K mainGlobals "row_with" = some (some (.ref f18))) (l18 : K.lookup f18 = some ⟨oc18, od18, .func (PySem.W.fnOf "row_with" "row_with" (defArgs sRowWith) (defBody sRowWith) (defScope sRowWith) .none kV18 dc18 pm18 an18 (.ref c18x) ct18), sl18⟩)
      (c18 : PySem.W.codeIn K (.ref c18x) "row_with" = true) (k18 : PySem.W.keepIn K (.ref f18) = true)
    (a19 : PySem.W.nsIn K mainGlobals "from_behind" = some (some (.ref f19))) (l19 : K.lookup f19 = some ⟨oc19, od19, .func (PySem.W.fnOf "from_behind" "from_behind" (defArgs sFromBehind) (defBody sFromBehind) (defScope sFromBehind) .none kV19 dc19 pm19 an19 (cd19) ct19), sl19⟩)
      (c19 : PySem.W.codeIn K (cd19) "from_behind" = true) (k19 : PySem.W.keepIn K (.ref f19) = true)
    (a21 : PySem.W.nsIn K mainGlobals "turned_in_either" = some (some (.ref f21))) (l21 : K.lookup f21 = some ⟨oc21, od21, .func (PySem.W.fnOf "turned_in_either" "turned_in_either" (defArgs sTie) (defBody sTie) (defScope sTie) .none kV21 dc21 pm21 an21 (cd21) ct21), sl21⟩)
      (c21 : PySem.W.codeIn K (cd21) "turned_in_either" = true) (k21 : PySem.W.keepIn K (.ref f21) = true)
    (a22 : PySem.W.nsIn K mainGlobals "join" = some (some (.ref f22))) (l22 : K.lookup f22 = some ⟨oc22, od22, .func (PySem.W.fnOf "join" "join" (defArgs sJoin) (defBody sJoin) (defScope sJoin) .none kV22 dc22 pm22 an22 (cd22) ct22), sl22⟩)
      (c22 : PySem.W.codeIn K (cd22) "join" = true) (k22 : PySem.W.keepIn K (.ref f22) = true)
    (a23 : PySem.W.nsIn K mainGlobals "meet" = some (some (.ref f23))) (l23 : K.lookup f23 = some ⟨oc23, od23, .func (PySem.W.fnOf "meet" "meet" (defArgs sMeet) (defBody sMeet) (defScope sMeet) .none kV23 dc23 pm23 an23 (cd23) ct23), sl23⟩)
      (c23 : PySem.W.codeIn K (cd23) "meet" = true) (k23 : PySem.W.keepIn K (.ref f23) = true)
    (a24 : PySem.W.nsIn K mainGlobals "chain" = some (some (.ref f24))) (l24 : K.lookup f24 = some ⟨oc24, od24, .func (PySem.W.fnOf "chain" "chain" (defArgs s_chain) (defBody s_chain) (defScope s_chain) .none kV24 dc24 pm24 an24 (cd24) ct24), sl24⟩)
      (c24 : PySem.W.codeIn K (cd24) "chain" = true) (k24 : PySem.W.keepIn K (.ref f24) = true)
    (a25 : PySem.W.nsIn K mainGlobals "shortest_rise" = some (some (.ref f25))) (l25 : K.lookup f25 = some ⟨oc25, od25, .func (PySem.W.fnOf "shortest_rise" "shortest_rise" (defArgs s_shortest_rise) (defBody s_shortest_rise) (defScope s_shortest_rise) .none kV25 dc25 pm25 an25 (cd25) ct25), sl25⟩)
      (c25 : PySem.W.codeIn K (cd25) "shortest_rise" = true) (k25 : PySem.W.keepIn K (.ref f25) = true)
    (a27 : PySem.W.nsIn K mainGlobals "_law_draw" = some (some (.ref f27))) (l27 : K.lookup f27 = some ⟨oc27, od27, .func (PySem.W.fnOf "_law_draw" "_law_draw" (defArgs sDraw) (defBody sDraw) (defScope sDraw) .none kV27 dc27 pm27 an27 (cd27) ct27), sl27⟩)
      (c27 : PySem.W.codeIn K (cd27) "_law_draw" = true) (k27 : PySem.W.keepIn K (.ref f27) = true)
    (a28 : PySem.W.nsIn K mainGlobals "_law_row" = some (some (.ref f28))) (l28 : K.lookup f28 = some ⟨oc28, od28, .func (PySem.W.fnOf "_law_row" "_law_row" (defArgs sLRow) (defBody sLRow) (defScope sLRow) .none kV28 dc28 pm28 an28 (cd28) ct28), sl28⟩)
      (c28 : PySem.W.codeIn K (cd28) "_law_row" = true) (k28 : PySem.W.keepIn K (.ref f28) = true)
    (a29 : PySem.W.nsIn K mainGlobals "_law_turned" = some (some (.ref f29))) (l29 : K.lookup f29 = some ⟨oc29, od29, .func (PySem.W.fnOf "_law_turned" "_law_turned" (defArgs sTurned) (defBody sTurned) (defScope sTurned) .none kV29 dc29 pm29 an29 (cd29) ct29), sl29⟩)
      (c29 : PySem.W.codeIn K (cd29) "_law_turned" = true) (k29 : PySem.W.keepIn K (.ref f29) = true)
    (a30 : PySem.W.nsIn K mainGlobals "_law_made" = some (some (.ref f30))) (l30 : K.lookup f30 = some ⟨oc30, od30, .func (PySem.W.fnOf "_law_made" "_law_made" (defArgs sMade) (defBody sMade) (defScope sMade) .none kV30 dc30 pm30 an30 (cd30) ct30), sl30⟩)
      (c30 : PySem.W.codeIn K (cd30) "_law_made" = true) (k30 : PySem.W.keepIn K (.ref f30) = true)
    (a31 : PySem.W.nsIn K mainGlobals "_law_up" = some (some (.ref f31))) (l31 : K.lookup f31 = some ⟨oc31, od31, .func (PySem.W.fnOf "_law_up" "_law_up" (defArgs sLUp) (defBody sLUp) (defScope sLUp) .none kV31 dc31 pm31 an31 (cd31) ct31), sl31⟩)
      (c31 : PySem.W.codeIn K (cd31) "_law_up" = true) (k31 : PySem.W.keepIn K (.ref f31) = true)
    (a32 : PySem.W.nsIn K mainGlobals "_law_two" = some (some (.ref f32))) (l32 : K.lookup f32 = some ⟨oc32, od32, .func (PySem.W.fnOf "_law_two" "_law_two" (defArgs sLTwo) (defBody sLTwo) (defScope sLTwo) .none kV32 dc32 pm32 an32 (cd32) ct32), sl32⟩)
      (c32 : PySem.W.codeIn K (cd32) "_law_two" = true) (k32 : PySem.W.keepIn K (.ref f32) = true)
    (a33 : PySem.W.nsIn K mainGlobals "_law_is_list" = some (some (.ref f33))) (l33 : K.lookup f33 = some ⟨oc33, od33, .func (PySem.W.fnOf "_law_is_list" "_law_is_list" (defArgs s__law_is_list) (defBody s__law_is_list) (defScope s__law_is_list) .none kV33 dc33 pm33 an33 (cd33) ct33), sl33⟩)
      (c33 : PySem.W.codeIn K (cd33) "_law_is_list" = true) (k33 : PySem.W.keepIn K (.ref f33) = true)
    (a34 : PySem.W.nsIn K mainGlobals "_law_followed" = some (some (.ref f34))) (l34 : K.lookup f34 = some ⟨oc34, od34, .func (PySem.W.fnOf "_law_followed" "_law_followed" (defArgs s__law_followed) (defBody s__law_followed) (defScope s__law_followed) .none kV34 dc34 pm34 an34 (cd34) ct34), sl34⟩)
      (c34 : PySem.W.codeIn K (cd34) "_law_followed" = true) (k34 : PySem.W.keepIn K (.ref f34) = true)
    (a35 : PySem.W.nsIn K mainGlobals "_law_every" = some (some (.ref f35))) (l35 : K.lookup f35 = some ⟨oc35, od35, .func (PySem.W.fnOf "_law_every" "_law_every" (defArgs sEvery) (defBody sEvery) (defScope sEvery) .none kV35 dc35 pm35 an35 (cd35) ct35), sl35⟩)
      (c35 : PySem.W.codeIn K (cd35) "_law_every" = true) (k35 : PySem.W.keepIn K (.ref f35) = true)
    (a36 : PySem.W.nsIn K mainGlobals "_law_straight" = some (some (.ref f36))) (l36 : K.lookup f36 = some ⟨oc36, od36, .func (PySem.W.fnOf "_law_straight" "_law_straight" (defArgs sStraight) (defBody sStraight) (defScope sStraight) .none kV36 dc36 pm36 an36 (cd36) ct36), sl36⟩)
      (c36 : PySem.W.codeIn K (cd36) "_law_straight" = true) (k36 : PySem.W.keepIn K (.ref f36) = true)
    (a37 : PySem.W.nsIn K mainGlobals "_law_reason" = some (some (.ref f37))) (l37 : K.lookup f37 = some ⟨oc37, od37, .func (PySem.W.fnOf "_law_reason" "_law_reason" (defArgs s__law_reason) (defBody s__law_reason) (defScope s__law_reason) .none kV37 dc37 pm37 an37 (cd37) ct37), sl37⟩)
      (c37 : PySem.W.codeIn K (cd37) "_law_reason" = true) (k37 : PySem.W.keepIn K (.ref f37) = true)
    (a38 : PySem.W.nsIn K mainGlobals "law" = some (some (.ref f38))) (l38 : K.lookup f38 = some ⟨oc38, od38, .func (PySem.W.fnOf "law" "law" (defArgs s_law) (defBody s_law) (defScope s_law) .none kV38 dc38 pm38 an38 (cd38) ct38), sl38⟩)
      (c38 : PySem.W.codeIn K (cd38) "law" = true) (k38 : PySem.W.keepIn K (.ref f38) = true)
    (z_isinstance : PySem.W.nsIn K mainGlobals "isinstance" = some none) (z_int : PySem.W.nsIn K mainGlobals "int" = some none) (z_bool : PySem.W.nsIn K mainGlobals "bool" = some none) (z_list : PySem.W.nsIn K mainGlobals "list" = some none) (z_tuple : PySem.W.nsIn K mainGlobals "tuple" = some none) (z_len : PySem.W.nsIn K mainGlobals "len" = some none) (z_all : PySem.W.nsIn K mainGlobals "all" = some none) (z_sorted : PySem.W.nsIn K mainGlobals "sorted" = some none) (z_range : PySem.W.nsIn K mainGlobals "range" = some none) (z_enumerate : PySem.W.nsIn K mainGlobals "enumerate" = some none) (z_abs : PySem.W.nsIn K mainGlobals "abs" = some none) (z_max : PySem.W.nsIn K mainGlobals "max" = some none) (z_min : PySem.W.nsIn K mainGlobals "min" = some none) (z_sum : PySem.W.nsIn K mainGlobals "sum" = some none) (z_str : PySem.W.nsIn K mainGlobals "str" = some none) (z_set : PySem.W.nsIn K mainGlobals "set" = some none) (z_dict : PySem.W.nsIn K mainGlobals "dict" = some none) (z_repr : PySem.W.nsIn K mainGlobals "repr" = some none) (z_ValueError : PySem.W.nsIn K mainGlobals "ValueError" = some none)
    (gMOST_THINGS : PySem.W.nsIn K mainGlobals "MOST_THINGS" = some (some (.int 12 t_MOST_THINGS)))
    (lc18 : K.lookup c18x = some ⟨occ18, ocd18, .fields ocv18, ocs18⟩) (hPq18 : ocv18[11]? = some (.ref Pt18)) (hcq18 : PySem.W.codeHdIn K c18x Pt18 = true) (nP18 : (K.lookup Pt18).isNone = true) (tP18 : h.get? Pt18 = some { cls := .none, data := .fields #[] }) :
    LawAtS l w K CX0 9 63 "_law_script" mg fa h := by
  have e := hfa.symm.trans (PySem.W.mg_of X G a38)
  cases e
  have F8 := fun_mk (st := sIsWhole) l8 c8 k8
  have b8 := F8.binds (ps := ["thing"]) fun _ _ _ _ _ _ us hl => match us, hl with | [_], _ => rfl
  have F9 := fun_mk (st := sIsMany) l9 c9 k9
  have b9 := F9.binds (ps := ["thing"]) fun _ _ _ _ _ _ us hl => match us, hl with | [_], _ => rfl
  have F10 := fun_mk (st := sIsRow) l10 c10 k10
  have b10 := F10.binds (ps := ["thing"]) fun _ _ _ _ _ _ us hl => match us, hl with | [_], _ => rfl
  have F11 := fun_mk (st := sIsPair) l11 c11 k11
  have b11 := F11.binds (ps := ["thing", "many"]) fun _ _ _ _ _ _ us hl => match us, hl with | [_, _], _ => rfl
  have F12 := fun_mk (st := sCheckMany) l12 c12 k12
  have b12 := F12.binds (ps := ["many"]) fun _ _ _ _ _ _ us hl => match us, hl with | [_], _ => rfl
  have F13 := fun_mk (st := sCheckRow) l13 c13 k13
  have b13 := F13.binds (ps := ["row"]) fun _ _ _ _ _ _ us hl => match us, hl with | [_], _ => rfl
  have F14 := fun_mk (st := sCheckAlike) l14 c14 k14
  have b14 := F14.binds (ps := ["one", "other"]) fun _ _ _ _ _ _ us hl => match us, hl with | [_, _], _ => rfl
  have F15 := fun_mk (st := sFirstRow) l15 c15 k15
  have b15 := F15.binds (ps := ["many"]) fun _ _ _ _ _ _ us hl => match us, hl with | [_], _ => rfl
  have F16 := fun_mk (st := sTurnedPairs) l16 c16 k16
  have b16 := F16.binds (ps := ["row"]) fun _ _ _ _ _ _ us hl => match us, hl with | [_], _ => rfl
  have F17 := fun_mk (st := sCountAhead) l17 c17 k17
  have b17 := F17.binds (ps := ["number", "turned", "many"]) fun _ _ _ _ _ _ us hl => match us, hl with | [_, _, _], _ => rfl
  have FC18 : FunC K "row_with" "row_with" sRowWith f18 _ c18x := ⟨⟨oc18, od18, kV18, dc18, pm18, an18, ct18, sl18, rfl, l18, c18⟩, k18⟩
  have F18 := FC18.fn
  have b18 := F18.binds (ps := ["pairs", "many"]) fun _ _ _ _ _ _ us hl => match us, hl with | [_, _], _ => rfl
  have F19 := fun_mk (st := sFromBehind) l19 c19 k19
  have b19 := F19.binds (ps := ["row"]) fun _ _ _ _ _ _ us hl => match us, hl with | [_], _ => rfl
  have F21 := fun_mk (st := sTie) l21 c21 k21
  have b21 := F21.binds (ps := ["one", "other"]) fun _ _ _ _ _ _ us hl => match us, hl with | [_, _], _ => rfl
  have F22 := fun_mk (st := sJoin) l22 c22 k22
  have b22 := F22.binds (ps := ["one", "other"]) fun _ _ _ _ _ _ us hl => match us, hl with | [_, _], _ => rfl
  have F23 := fun_mk (st := sMeet) l23 c23 k23
  have b23 := F23.binds (ps := ["one", "other"]) fun _ _ _ _ _ _ us hl => match us, hl with | [_, _], _ => rfl
  have F24 := fun_mk (st := s_chain) l24 c24 k24
  have b24 := F24.binds (ps := ["one", "other", "pair"]) fun _ _ _ _ _ _ us hl => match us, hl with | [_, _, _], _ => rfl
  have F25 := fun_mk (st := s_shortest_rise) l25 c25 k25
  have b25 := F25.binds (ps := ["steps", "first", "last"]) fun _ _ _ _ _ _ us hl => match us, hl with | [_, _, _], _ => rfl
  have F27 := fun_mk (st := sDraw) l27 c27 k27
  have b27 := F27.binds (ps := ["_law_script", "_law_k"]) fun _ _ _ _ _ _ us hl => match us, hl with | [_, _], _ => rfl
  have F28 := fun_mk (st := sLRow) l28 c28 k28
  have b28 := F28.binds (ps := ["_law_script", "_law_k", "_law_many"]) fun _ _ _ _ _ _ us hl => match us, hl with | [_, _, _], _ => rfl
  have F29 := fun_mk (st := sTurned) l29 c29 k29
  have b29 := F29.binds (ps := ["_law_row_here"]) fun _ _ _ _ _ _ us hl => match us, hl with | [_], _ => rfl
  have F30 := fun_mk (st := sMade) l30 c30 k30
  have b30 := F30.binds (ps := ["_law_pairs", "_law_many"]) fun _ _ _ _ _ _ us hl => match us, hl with | [_, _], _ => rfl
  have F31 := fun_mk (st := sLUp) l31 c31 k31
  have b31 := F31.binds (ps := ["_law_script", "_law_k", "_law_row_here", "_law_steps"]) fun _ _ _ _ _ _ us hl => match us, hl with | [_, _, _, _], _ => rfl
  have F32 := fun_mk (st := sLTwo) l32 c32 k32
  have b32 := F32.binds (ps := ["_law_script", "_law_k", "_law_most"]) fun _ _ _ _ _ _ us hl => match us, hl with | [_, _, _], _ => rfl
  have F33 := fun_mk (st := s__law_is_list) l33 c33 k33
  have b33 := F33.binds (ps := ["_law_found", "_law_due"]) fun _ _ _ _ _ _ us hl => match us, hl with | [_, _], _ => rfl
  have F34 := fun_mk (st := s__law_followed) l34 c34 k34
  have b34 := F34.binds (ps := ["_law_pairs", "_law_many"]) fun _ _ _ _ _ _ us hl => match us, hl with | [_, _], _ => rfl
  have F35 := fun_mk (st := sEvery) l35 c35 k35
  have b35 := F35.binds (ps := ["_law_many"]) fun _ _ _ _ _ _ us hl => match us, hl with | [_], _ => rfl
  have F36 := fun_mk (st := sStraight) l36 c36 k36
  have b36 := F36.binds (ps := ["_law_row_here"]) fun _ _ _ _ _ _ us hl => match us, hl with | [_], _ => rfl
  have F37 := fun_mk (st := s__law_reason) l37 c37 k37
  have b37 := F37.binds (ps := ["_law_pairs", "_law_pair"]) fun _ _ _ _ _ _ us hl => match us, hl with | [_, _], _ => rfl
  have F38 := fun_mk (st := s_law) l38 c38 k38
  have b38 := F38.binds (ps := ["_law_script"]) fun _ _ _ _ _ _ us hl => match us, hl with | [_], _ => rfl
  have B : Bi mg := ⟨PySem.W.mg_none_of X G z_isinstance, PySem.W.mg_none_of X G z_int, PySem.W.mg_none_of X G z_bool, PySem.W.mg_none_of X G z_list, PySem.W.mg_none_of X G z_tuple, PySem.W.mg_none_of X G z_len, PySem.W.mg_none_of X G z_all, PySem.W.mg_none_of X G z_sorted, PySem.W.mg_none_of X G z_range, PySem.W.mg_none_of X G z_enumerate⟩
  have J : Bj mg := ⟨PySem.W.mg_none_of X G z_abs, PySem.W.mg_none_of X G z_max, PySem.W.mg_none_of X G z_min, PySem.W.mg_none_of X G z_sum, PySem.W.mg_none_of X G z_str, PySem.W.mg_none_of X G z_set, PySem.W.mg_none_of X G z_dict, PySem.W.mg_none_of X G z_repr, PySem.W.mg_none_of X G z_ValueError⟩
  have z_isinstance' := PySem.W.mg_none_of X G z_isinstance
  have z_int' := PySem.W.mg_none_of X G z_int
  have z_bool' := PySem.W.mg_none_of X G z_bool
  have z_list' := PySem.W.mg_none_of X G z_list
  have z_tuple' := PySem.W.mg_none_of X G z_tuple
  have z_len' := PySem.W.mg_none_of X G z_len
  have z_all' := PySem.W.mg_none_of X G z_all
  have z_sorted' := PySem.W.mg_none_of X G z_sorted
  have z_range' := PySem.W.mg_none_of X G z_range
  have z_enumerate' := PySem.W.mg_none_of X G z_enumerate
  have z_abs' := PySem.W.mg_none_of X G z_abs
  have z_max' := PySem.W.mg_none_of X G z_max
  have z_min' := PySem.W.mg_none_of X G z_min
  have z_sum' := PySem.W.mg_none_of X G z_sum
  have z_str' := PySem.W.mg_none_of X G z_str
  have z_set' := PySem.W.mg_none_of X G z_set
  have z_dict' := PySem.W.mg_none_of X G z_dict
  have z_repr' := PySem.W.mg_none_of X G z_repr
  have z_ValueError' := PySem.W.mg_none_of X G z_ValueError
  have g_MOST_THINGS := PySem.W.mg_of X G gMOST_THINGS
  refine ⟨PySem.W.fnOf "law" "law" (defArgs s_law) (defBody s_law) (defScope s_law) .none kV38 dc38 pm38 an38 cd38 ct38, [(c18x, Pt18)], spLaw ([(Pt18, lamQ)] : Tbs) K, fun p hp => ?_, fun p hp => ?_, fun p hp => ?_, fun s v => .of_eq rfl, fun H a ns hl _ hT hs => ?_, fun base XB GB TBs => ?_⟩
  · cases List.mem_singleton.mp hp
    exact tP18
  · cases List.mem_singleton.mp hp
    exact Option.isNone_iff_eq_none.mp nP18
  · cases List.mem_singleton.mp hp
    exact PySem.W.codeHd_of_K X hcq18
  · refine ⟨ns, by show ns.length ≤ 1000; omega, known H, known_kn fun p hp => ?_, ⟨⟨a, rfl, known_sl hs⟩, True.intro⟩, fun v G2 H2 n r => dq_bool r⟩
    cases List.mem_singleton.mp hp
    exact ⟨#[], hT _ List.mem_cons_self, by trivial, fun pos cv z => by cases z⟩
  · revert TBs
    intro TBs
    have TB18 : TabB base mg c18x Pt18 := TBs _ List.mem_cons_self
    generalize hT : ([(Pt18, lamQ)] : Tbs) = T
    have inT18 : (Pt18, lamQ) ∈ T := by
      rw [← hT]
      exact List.mem_cons_self
    have one18 : ∀ p ∈ T, p.1 = Pt18 → p.2 = lamQ := fun p hp e => by
      rw [← hT] at hp
      cases List.mem_singleton.mp hp
      rfl
    revert w
    intro w
    generalize l.prog = P
    have D8 : Df P w K mg base "is_whole" 1 f8 _ ["thing"] (spIsWhole T) := ⟨ok_is_whole F8 B, PySem.W.mg_of X G a8, k8, b8⟩
    have D9 : Df P w K mg base "is_many" 2 f9 _ ["thing"] (spIsMany T) := ⟨ok_is_many F9 D8 g_MOST_THINGS, PySem.W.mg_of X G a9, k9, b9⟩
    have D10 : Df P w K mg base "is_row" 3 f10 _ ["thing"] (spIsRow T) := ⟨ok_is_row F10 B D8 D9, PySem.W.mg_of X G a10, k10, b10⟩
    have D11 : Df P w K mg base "is_pair" 2 f11 _ ["thing", "many"] (spIsPair T) := ⟨ok_is_pair F11 B D8, PySem.W.mg_of X G a11, k11, b11⟩
    have D12 : Df P w K mg base "check_many" 3 f12 _ ["many"] (spCheckMany T) := ⟨ok_check_many F12 D9, PySem.W.mg_of X G a12, k12, b12⟩
    have D13 : Df P w K mg base "check_row" 4 f13 _ ["row"] (spCheckRow T) := ⟨ok_check_row F13 D10, PySem.W.mg_of X G a13, k13, b13⟩
    have D14 : Df P w K mg base "check_alike" 5 f14 _ ["one", "other"] (spCheckAlike T) := ⟨ok_check_alike F14 B D13, PySem.W.mg_of X G a14, k14, b14⟩
    have D15 : Df P w K mg base "first_row" 4 f15 _ ["many"] (spFirstRow T) := ⟨ok_first_row F15 B D12, PySem.W.mg_of X G a15, k15, b15⟩
    have D16 : Df P w K mg base "turned_pairs" 5 f16 _ ["row"] (spTurnedPairs T) := ⟨ok_turned_pairs F16 B D13, PySem.W.mg_of X G a16, k16, b16⟩
    have D17 : Df P w K mg base "count_ahead" 1 f17 _ ["number", "turned", "many"] (spCountAhead T) := ⟨ok_count_ahead F17 B, PySem.W.mg_of X G a17, k17, b17⟩
    have D18 : Df P w K mg base "row_with" 6 f18 _ ["pairs", "many"] (spRowWith T) := ⟨ok_row_with FC18 B TB18 inT18 one18 D17 D11 D12 D15 D16, PySem.W.mg_of X G a18, k18, b18⟩
    have D19 : Df P w K mg base "from_behind" 5 f19 _ ["row"] (spFromBehind T) := ⟨ok_from_behind F19 D13, PySem.W.mg_of X G a19, k19, b19⟩
    have D21 : Df P w K mg base "turned_in_either" 6 f21 _ ["one", "other"] (spTie T) := ⟨ok_tie F21 D16, PySem.W.mg_of X G a21, k21, b21⟩
    have D22 : Df P w K mg base "join" 7 f22 _ ["one", "other"] (spJoin T) := ⟨ok_join F22 B D14 D21 D18, PySem.W.mg_of X G a22, k22, b22⟩
    have D23 : Df P w K mg base "meet" 8 f23 _ ["one", "other"] (spMeet T) := ⟨ok_meet F23 D19 D22, PySem.W.mg_of X G a23, k23, b23⟩
    have D25 : Df P w K mg base "shortest_rise" 1 f25 _ ["steps", "first", "last"] (spRise T) := ⟨ok_rise F25 B J, PySem.W.mg_of X G a25, k25, b25⟩
    have D24 : Df P w K mg base "chain" 7 f24 _ ["one", "other", "pair"] (spChain T) := ⟨ok_chain F24 B D14 D11 D21 D25, PySem.W.mg_of X G a24, k24, b24⟩
    have D27 : Df P w K mg base "_law_draw" 1 f27 _ ["_law_script", "_law_k"] (spDraw T K) := ⟨ok_draw F27 B z_sum', PySem.W.mg_of X G a27, k27, b27⟩
    have D28 : Df P w K mg base "_law_row" 2 f28 _ ["_law_script", "_law_k", "_law_many"] (spLRow T K) := ⟨ok_lrow F28 B D27, PySem.W.mg_of X G a28, k28, b28⟩
    have D29 : Df P w K mg base "_law_turned" 1 f29 _ ["_law_row_here"] (spTurned T) := ⟨ok_turned F29 B, PySem.W.mg_of X G a29, k29, b29⟩
    have D30 : Df P w K mg base "_law_made" 2 f30 _ ["_law_pairs", "_law_many"] (spMade T) := ⟨ok_made F30 B z_max' D29, PySem.W.mg_of X G a30, k30, b30⟩
    have D31 : Df P w K mg base "_law_up" 2 f31 _ ["_law_script", "_law_k", "_law_row_here", "_law_steps"] (spLUp T K) := ⟨ok_lup F31 B D27, PySem.W.mg_of X G a31, k31, b31⟩
    have D32 : Df P w K mg base "_law_two" 3 f32 _ ["_law_script", "_law_k", "_law_most"] (spLTwo T K) := ⟨ok_ltwo F32 B D27 D28 D31, PySem.W.mg_of X G a32, k32, b32⟩
    have D33 : Df P w K mg base "_law_is_list" 1 f33 _ ["_law_found", "_law_due"] (spIsL T) := ⟨ok_isl F33 B, PySem.W.mg_of X G a33, k33, b33⟩
    have D34 : Df P w K mg base "_law_followed" 1 f34 _ ["_law_pairs", "_law_many"] (spFol T) := ⟨ok_fol F34 B J, PySem.W.mg_of X G a34, k34, b34⟩
    have D35 : Df P w K mg base "_law_every" 1 f35 _ ["_law_many"] (spEvery T) := ⟨ok_every F35 B, PySem.W.mg_of X G a35, k35, b35⟩
    have D36 : Df P w K mg base "_law_straight" 2 f36 _ ["_law_row_here"] (spStraight T) := ⟨ok_straight F36 B D29 D35, PySem.W.mg_of X G a36, k36, b36⟩
    have D37 : Df P w K mg base "_law_reason" 1 f37 _ ["_law_pairs", "_law_pair"] (spReason T) := ⟨ok_reason F37 B, PySem.W.mg_of X G a37, k37, b37⟩
    exact ok_law F38 B J D32 D29 D30 D34 D36 D35 D22 D23 D33 D37 D24
end Pg
open PySem PySem.W PyProof.Rows
set_option maxRecDepth 100000 in
set_option maxHeartbeats 0 in
theorem PySem.Challenge.cw_swaplattice_k04_joins_and_reasons_holds : PySem.Challenge.rw_swaplattice_k04_joins_and_reasons.Holds := by
  w_on; o_law; k_head; (case hw => w_witness2)
  k_fill
  refine LamX.walk_ofTs (l := PySem.Challenge.rw_swaplattice_k04_joins_and_reasons) (n := 63) (k := 9) (CX := fun _ => L2.CX0) (x := "_law_script") rfl (by decide) rfl ⟨rfl, by decide, by decide⟩ (fun w h Y => km_in_of Y) ?F (fun _ _ _ _ _ z => z)
  case F =>
    intro w mg fa h Y KX G hmg
    refine' Pg.law_at KX G hmg ?a8 ?l8 ?c8 ?k8 ?a9 ?l9 ?c9 ?k9 ?a10 ?l10 ?c10 ?k10 ?a11 ?l11 ?c11 ?k11 ?a12 ?l12 ?c12 ?k12 ?a13 ?l13 ?c13 ?k13 ?a14 ?l14 ?c14 ?k14 ?a15 ?l15 ?c15 ?k15 ?a16 ?l16 ?c16 ?k16 ?a17 ?l17 ?c17 ?k17 ?a18 ?l18 ?c18 ?k18 ?a19 ?l19 ?c19 ?k19 ?a21 ?l21 ?c21 ?k21 ?a22 ?l22 ?c22 ?k22 ?a23 ?l23 ?c23 ?k23 ?a24 ?l24 ?c24 ?k24 ?a25 ?l25 ?c25 ?k25 ?a27 ?l27 ?c27 ?k27 ?a28 ?l28 ?c28 ?k28 ?a29 ?l29 ?c29 ?k29 ?a30 ?l30 ?c30 ?k30 ?a31 ?l31 ?c31 ?k31 ?a32 ?l32 ?c32 ?k32 ?a33 ?l33 ?c33 ?k33 ?a34 ?l34 ?c34 ?k34 ?a35 ?l35 ?c35 ?k35 ?a36 ?l36 ?c36 ?k36 ?a37 ?l37 ?c37 ?k37 ?a38 ?l38 ?c38 ?k38 ?z_isinstance ?z_int ?z_bool ?z_list ?z_tuple ?z_len ?z_all ?z_sorted ?z_range ?z_enumerate ?z_abs ?z_max ?z_min ?z_sum ?z_str ?z_set ?z_dict ?z_repr ?z_ValueError ?gMOST_THINGS ?lc18 ?hPq18 ?hcq18 ?nP18 ?tP18
    (case a8 => k_is); (case l8 => k_is); (case c8 => k_is); (case k8 => k_is)
    (case a9 => k_is); (case l9 => k_is); (case c9 => k_is); (case k9 => k_is)
    (case a10 => k_is); (case l10 => k_is); (case c10 => k_is); (case k10 => k_is)
    (case a11 => k_is); (case l11 => k_is); (case c11 => k_is); (case k11 => k_is)
    (case a12 => k_is); (case l12 => k_is); (case c12 => k_is); (case k12 => k_is)
    (case a13 => k_is); (case l13 => k_is); (case c13 => k_is); (case k13 => k_is)
    (case a14 => k_is); (case l14 => k_is); (case c14 => k_is); (case k14 => k_is)
    (case a15 => k_is); (case l15 => k_is); (case c15 => k_is); (case k15 => k_is)
    (case a16 => k_is); (case l16 => k_is); (case c16 => k_is); (case k16 => k_is)
    (case a17 => k_is); (case l17 => k_is); (case c17 => k_is); (case k17 => k_is)
    (case a18 => k_is); (case l18 => k_is); (case c18 => k_is); (case k18 => k_is)
    (case a19 => k_is); (case l19 => k_is); (case c19 => k_is); (case k19 => k_is)
    (case a21 => k_is); (case l21 => k_is); (case c21 => k_is); (case k21 => k_is)
    (case a22 => k_is); (case l22 => k_is); (case c22 => k_is); (case k22 => k_is)
    (case a23 => k_is); (case l23 => k_is); (case c23 => k_is); (case k23 => k_is)
    (case a24 => k_is); (case l24 => k_is); (case c24 => k_is); (case k24 => k_is)
    (case a25 => k_is); (case l25 => k_is); (case c25 => k_is); (case k25 => k_is)
    (case a27 => k_is); (case l27 => k_is); (case c27 => k_is); (case k27 => k_is)
    (case a28 => k_is); (case l28 => k_is); (case c28 => k_is); (case k28 => k_is)
    (case a29 => k_is); (case l29 => k_is); (case c29 => k_is); (case k29 => k_is)
    (case a30 => k_is); (case l30 => k_is); (case c30 => k_is); (case k30 => k_is)
    (case a31 => k_is); (case l31 => k_is); (case c31 => k_is); (case k31 => k_is)
    (case a32 => k_is); (case l32 => k_is); (case c32 => k_is); (case k32 => k_is)
    (case a33 => k_is); (case l33 => k_is); (case c33 => k_is); (case k33 => k_is)
    (case a34 => k_is); (case l34 => k_is); (case c34 => k_is); (case k34 => k_is)
    (case a35 => k_is); (case l35 => k_is); (case c35 => k_is); (case k35 => k_is)
    (case a36 => k_is); (case l36 => k_is); (case c36 => k_is); (case k36 => k_is)
    (case a37 => k_is); (case l37 => k_is); (case c37 => k_is); (case k37 => k_is)
    (case a38 => k_is); (case l38 => k_is); (case c38 => k_is); (case k38 => k_is)
    (case z_isinstance => k_is); (case z_int => k_is); (case z_bool => k_is); (case z_list => k_is)
    (case z_tuple => k_is); (case z_len => k_is); (case z_all => k_is); (case z_sorted => k_is)
    (case z_range => k_is); (case z_enumerate => k_is); (case z_abs => k_is); (case z_max => k_is)
    (case z_min => k_is); (case z_sum => k_is); (case z_str => k_is); (case z_set => k_is)
    (case z_dict => k_is); (case z_repr => k_is); (case z_ValueError => k_is); (case gMOST_THINGS => k_is)


    (case lc18 => k_is); (case hPq18 => rfl); (case hcq18 => kernel_rfl); (case nP18 => kernel_rfl); (case tP18 => exact km_tabs_of Y _ (by first | k_mem | simp))


