import PyProof.Rows.All
import Wide.All
import OpenK.AllK
import Wide.FinOn
import PyProof.EqAt
import PyProof.EqKinds
import PyProof.TupleCall
import KE.BitLaws
import KE.KDictSum
import Open.SpecLaws
import KE.OsHead
import KE.OsGo
import PySem.Challenge.RW_lossbook_s01_answers
section
set_option linter.all false
namespace Lb
open Vbchah (Slot rank ahead portion room search heavy light shareOf sooner)
theorem sum_nil : Vbchah.sum [] = 0 := rfl
theorem sum_cons (a : Nat) (l : List Nat) : Vbchah.sum (a :: l) = a + Vbchah.sum l := rfl
theorem sum_append : ∀ l m : List Nat, Vbchah.sum (l ++ m) = Vbchah.sum l + Vbchah.sum m
  | [], m => by rw [List.nil_append, sum_nil, Nat.zero_add]
  | a :: l, m => by rw [List.cons_append, sum_cons, sum_cons, sum_append l m, Nat.add_assoc]
theorem sum_map_le {α : Type} {f g : α → Nat} : ∀ {l : List α}, (∀ x ∈ l, f x ≤ g x) → Vbchah.sum (l.map f) ≤ Vbchah.sum (l.map g)
  | [], _ => Nat.le_refl _
  | a :: l, h => by
    rw [List.map_cons, List.map_cons, sum_cons, sum_cons]
    exact Nat.add_le_add (h a (List.mem_cons_self ..)) (sum_map_le fun x hx => h x (List.mem_cons_of_mem _ hx))
theorem sum_map_lt {α : Type} {f g : α → Nat} : ∀ {l : List α} {y : α}, (∀ x ∈ l, f x ≤ g x) → y ∈ l → f y < g y → Vbchah.sum (l.map f) < Vbchah.sum (l.map g)
  | a :: l, y, h, hy, hlt => by
    rw [List.map_cons, List.map_cons, sum_cons, sum_cons]
    have h1 := h a (List.mem_cons_self ..)
    have h2 : Vbchah.sum (l.map f) ≤ Vbchah.sum (l.map g) := sum_map_le fun x hx => h x (List.mem_cons_of_mem _ hx)
    rcases List.mem_cons.mp hy with rfl | hy
    · omega
    · have := sum_map_lt (fun x hx => h x (List.mem_cons_of_mem _ hx)) hy hlt
      omega
theorem sum_map_congr {α : Type} {f g : α → Nat} {l : List α} (h : ∀ x ∈ l, f x = g x) : Vbchah.sum (l.map f) = Vbchah.sum (l.map g) := by
  rw [List.map_congr_left h]
theorem le_sum {α : Type} {f : α → Nat} : ∀ {l : List α} {y : α}, y ∈ l → f y ≤ Vbchah.sum (l.map f)
  | a :: l, y, hy => by
    rw [List.map_cons, sum_cons]
    rcases List.mem_cons.mp hy with rfl | hy
    · omega
    · have := le_sum (f := f) hy
      omega
theorem sum_map_eq_all {α : Type} {f g : α → Nat} : ∀ {l : List α}, (∀ x ∈ l, f x ≤ g x) → Vbchah.sum (l.map g) ≤ Vbchah.sum (l.map f) → ∀ x ∈ l, f x = g x := by
  intro l h hs x hx
  rcases Nat.lt_or_ge (f x) (g x) with q | q
  · have := sum_map_lt h hx q
    omega
  · have := h x hx
    omega
theorem search_at {right : Nat → Bool} {t : Nat} : ∀ (f lo hi : Nat), lo ≤ t → t ≤ hi → hi - lo < 2 ^ f → (∀ g, lo ≤ g → g ≤ hi → (right g = true ↔ g ≤ t)) → search right f lo hi = t
  | 0, lo, hi, h1, h2, h3, _ => by
    unfold search
    rw [Nat.pow_zero] at h3
    omega
  | f + 1, lo, hi, h1, h2, h3, h => by
    unfold search
    rw [Nat.pow_succ] at h3
    by_cases hl : hi ≤ lo
    · rw [if_pos hl]
      omega
    · rw [if_neg hl]
      dsimp only
      have hm := h ((lo + hi + 1) / 2) (by omega) (by omega)
      by_cases hr : right ((lo + hi + 1) / 2) = true
      · rw [if_pos hr]
        exact search_at f _ _ (hm.mp hr) h2 (by omega) fun g a b => h g (by omega) b
      · rw [if_neg hr]
        have ht : ¬ (lo + hi + 1) / 2 ≤ t := fun q => hr (hm.mpr q)
        exact search_at f _ _ h1 (by omega) (by omega) fun g a b => h g a (by omega)
theorem ahead_le_cap (i : Slot) (g : Nat) (j : Slot) : ahead i g j ≤ j.cap := Nat.min_le_left _ _
theorem ahead_self {i : Slot} {g : Nat} (hw : 0 < i.weight) (hg : g ≤ i.cap) : ahead i g i = g := by
  unfold ahead
  rw [if_pos (Nat.le_refl _), Nat.mul_div_cancel _ hw]
  omega
theorem ahead_mono {i j : Slot} {g g' : Nat} (h : g ≤ g') : ahead i g j ≤ ahead i g' j := by
  unfold ahead
  have hm : g * j.weight ≤ g' * j.weight := Nat.mul_le_mul_right _ h
  have : (if j.key ≤ i.key then g * j.weight / i.weight else (g * j.weight - 1) / i.weight) ≤ (if j.key ≤ i.key then g' * j.weight / i.weight else (g' * j.weight - 1) / i.weight) := by
    split
    · exact Nat.div_le_div_right hm
    · exact Nat.div_le_div_right (by omega)
  omega
theorem rank_mono (l : List Slot) (i : Slot) {g g' : Nat} (h : g ≤ g') : rank l i g ≤ rank l i g' := by
  unfold rank
  by_cases h0 : g = 0
  · rw [if_pos h0]; exact Nat.zero_le _
  · rw [if_neg h0, if_neg (by omega)]
    exact sum_map_le fun x _ => ahead_mono h
theorem rank_le_room (l : List Slot) (i : Slot) (g : Nat) : rank l i g ≤ room l := by
  unfold rank room
  split
  · exact Nat.zero_le _
  · exact sum_map_le fun x _ => ahead_le_cap i g x
theorem rank_zero (l : List Slot) (i : Slot) : rank l i 0 = 0 := by unfold rank; rw [if_pos rfl]
theorem search_mono {p : Nat → Bool} (hm : ∀ g g', g ≤ g' → p g' = true → p g = true) : ∀ (f lo hi : Nat), lo ≤ hi → hi - lo < 2 ^ f → p lo = true →
    lo ≤ search p f lo hi ∧ search p f lo hi ≤ hi ∧ ∀ g, lo ≤ g → g ≤ hi → (p g = true ↔ g ≤ search p f lo hi)
  | 0, lo, hi, h1, h3, h0 => by
    unfold search
    rw [Nat.pow_zero] at h3
    have e : hi = lo := by omega
    subst e
    refine ⟨Nat.le_refl _, Nat.le_refl _, fun g a b => ?_⟩
    have : g = hi := by omega
    subst this
    exact ⟨fun _ => Nat.le_refl _, fun _ => h0⟩
  | f + 1, lo, hi, h1, h3, h0 => by
    unfold search
    rw [Nat.pow_succ] at h3
    by_cases hl : hi ≤ lo
    · rw [if_pos hl]
      have e : hi = lo := by omega
      subst e
      refine ⟨Nat.le_refl _, Nat.le_refl _, fun g a b => ?_⟩
      have : g = hi := by omega
      subst this
      exact ⟨fun _ => Nat.le_refl _, fun _ => h0⟩
    · rw [if_neg hl]
      dsimp only
      by_cases hr : p ((lo + hi + 1) / 2) = true
      · rw [if_pos hr]
        obtain ⟨a1, a2, a3⟩ := search_mono hm f ((lo + hi + 1) / 2) hi (by omega) (by omega) hr
        refine ⟨by omega, a2, fun g b1 b2 => ?_⟩
        rcases Nat.lt_or_ge g ((lo + hi + 1) / 2) with q | q
        · exact ⟨fun _ => by omega, fun _ => hm g _ (by omega) hr⟩
        · exact a3 g q b2
      · rw [if_neg hr]
        obtain ⟨a1, a2, a3⟩ := search_mono hm f lo ((lo + hi + 1) / 2 - 1) (by omega) (by omega) h0
        refine ⟨a1, by omega, fun g b1 b2 => ?_⟩
        rcases Nat.lt_or_ge g ((lo + hi + 1) / 2) with q | q
        · exact a3 g b1 (by omega)
        · refine ⟨fun z => absurd (hm _ g q z) hr, fun z => by omega⟩
theorem portion_spec (l : List Slot) (a : Nat) {i : Slot} (hc : i.cap < 2 ^ 64) :
    portion l a i ≤ i.cap ∧ ∀ g, g ≤ i.cap → (rank l i g ≤ a ↔ g ≤ portion l a i) := by
  obtain ⟨_, h2, h3⟩ := search_mono (p := fun g => decide (rank l i g ≤ a)) (fun g g' h q => by
    have q := of_decide_eq_true q
    exact decide_eq_true (Nat.le_trans (rank_mono l i h) q)) 64 0 i.cap (Nat.zero_le _) (by omega) (decide_eq_true (by rw [rank_zero]; exact Nat.zero_le _))
  refine ⟨h2, fun g hg => ?_⟩
  exact decide_eq_true_iff.symm.trans (h3 g (Nat.zero_le _) hg)
theorem portion_clip (l : List Slot) (a : Nat) (i : Slot) : portion l (min a (room l)) i = portion l a i := by
  unfold portion
  congr 1
  funext g
  have := rank_le_room l i g
  congr 1
  apply propext
  constructor <;> intro h <;> omega
structure Right (l : List Slot) (a : Nat) (x : Nat → Nat) : Prop where
  cap : ∀ s ∈ l, x s.key ≤ s.cap
  sum : Vbchah.sum (l.map fun s => x s.key) = a
  ord : ∀ i ∈ l, ∀ j ∈ l, 0 < x i.key → x j.key < j.cap → sooner j (x j.key) i (x i.key) = false
structure Good (l : List Slot) : Prop where
  keys : (l.map fun s => s.key).Nodup
  pos : ∀ s ∈ l, 0 < s.weight
  caps : ∀ s ∈ l, s.cap < 2 ^ 64
theorem key_inj : ∀ {l : List Slot}, (l.map fun s => s.key).Nodup → ∀ {i j : Slot}, i ∈ l → j ∈ l → i.key = j.key → i = j
  | a :: l, h, i, j, hi, hj, e => by
    rw [List.map_cons, List.nodup_cons] at h
    rcases List.mem_cons.mp hi with ei | mi <;> rcases List.mem_cons.mp hj with ej | mj
    · exact ei.trans ej.symm
    · exact absurd (List.mem_map.mpr ⟨j, mj, by rw [← ei]; exact e.symm⟩) h.1
    · exact absurd (List.mem_map.mpr ⟨i, mi, by rw [← ej]; exact e⟩) h.1
    · exact key_inj h.2 mi mj e
theorem sooner_false {j i : Slot} {g h : Nat} : sooner j g i h = false ↔ h * j.weight ≤ (g + 1) * i.weight ∧ (h * j.weight = (g + 1) * i.weight → ¬ j.key < i.key) := by
  unfold sooner
  rw [Bool.or_eq_false_iff, Bool.and_eq_false_iff]
  constructor
  · rintro ⟨h1, h2⟩
    have h1 := of_decide_eq_false h1
    refine ⟨by omega, fun e q => ?_⟩
    rcases h2 with h2 | h2
    · rw [beq_eq_false_iff_ne] at h2
      exact h2 e.symm
    · exact of_decide_eq_false h2 q
  · rintro ⟨h1, h2⟩
    refine ⟨decide_eq_false (by omega), ?_⟩
    by_cases e : h * j.weight = (g + 1) * i.weight
    · exact Or.inr (decide_eq_false (h2 e))
    · exact Or.inl (beq_eq_false_iff_ne.mpr fun q => e q.symm)
theorem Right.rank_iff {l : List Slot} {a : Nat} {x : Nat → Nat} (G : Good l) (R : Right l a x) {i : Slot} (hi : i ∈ l) {g : Nat} (hg : g ≤ i.cap) : rank l i g ≤ a ↔ g ≤ x i.key := by
  have hwi := G.pos i hi
  constructor
  · intro hr
    rcases Nat.lt_or_ge (x i.key) g with q | q
    · exfalso
      unfold rank at hr
      rw [if_neg (by omega)] at hr
      have hlt : Vbchah.sum (l.map fun s => x s.key) < Vbchah.sum (l.map (ahead i g)) := by
        refine sum_map_lt (y := i) (fun j hj => ?_) hi (by rw [ahead_self hwi hg]; exact q)
        rcases Nat.eq_zero_or_pos (x j.key) with h0 | h0
        · omega
        · have ho := sooner_false.mp (R.ord j hj i hi h0 (by omega))
          have hc := R.cap j hj
          unfold ahead
          have hm : (x i.key + 1) * j.weight ≤ g * j.weight := Nat.mul_le_mul_right _ q
          refine Nat.le_min.mpr ⟨hc, ?_⟩
          by_cases hk : j.key ≤ i.key
          · rw [if_pos hk, Nat.le_div_iff_mul_le hwi]
            omega
          · rw [if_neg hk, Nat.le_div_iff_mul_le hwi]
            have h2 := ho.2
            by_cases e : x j.key * i.weight = (x i.key + 1) * j.weight
            · exact absurd (show i.key < j.key by omega) (h2 e)
            · omega
      rw [R.sum] at hlt
      omega
    · exact q
  · intro hx
    rw [← R.sum]
    unfold rank
    by_cases h0 : g = 0
    · rw [if_pos h0]; exact Nat.zero_le _
    · rw [if_neg h0]
      refine sum_map_le fun j hj => ?_
      rcases Nat.lt_or_ge (x j.key) (ahead i g j) with q | q
      · exfalso
        have hcj : x j.key < j.cap := Nat.lt_of_lt_of_le q (ahead_le_cap i g j)
        have ho := sooner_false.mp (R.ord i hi j hj (by omega) hcj)
        have hm : g * j.weight ≤ x i.key * j.weight := Nat.mul_le_mul_right _ hx
        unfold ahead at q
        have q2 : x j.key + 1 ≤ (if j.key ≤ i.key then g * j.weight / i.weight else (g * j.weight - 1) / i.weight) := by omega
        by_cases hk : j.key ≤ i.key
        · rw [if_pos hk, Nat.le_div_iff_mul_le hwi] at q2
          have e : x i.key * j.weight = (x j.key + 1) * i.weight := by omega
          have hne := ho.2 e
          have hke : j.key = i.key := by omega
          have hji := key_inj G.keys hj hi hke
          subst hji
          rw [Nat.mul_comm] at e
          have := Nat.eq_of_mul_eq_mul_left hwi (e.trans (Nat.mul_comm _ _))
          omega
        · rw [if_neg hk, Nat.le_div_iff_mul_le hwi] at q2
          have : 0 < g * j.weight := Nat.mul_pos (by omega) (G.pos j hj)
          omega
      · exact q
theorem Right.portion {l : List Slot} {a : Nat} {x : Nat → Nat} (G : Good l) (R : Right l a x) {i : Slot} (hi : i ∈ l) : portion l a i = x i.key := by
  obtain ⟨h1, h2⟩ := portion_spec l a (G.caps i hi)
  have hc := R.cap i hi
  have e1 := (h2 _ hc).mp ((R.rank_iff G hi hc).mpr (Nat.le_refl _))
  have e2 := (R.rank_iff G hi h1).mp ((h2 _ h1).mpr (Nat.le_refl _))
  omega
def bump (x : Nat → Nat) (k : Nat) : Nat → Nat := fun q => if q = k then x q + 1 else x q
theorem bump_same (x : Nat → Nat) (k : Nat) : bump x k k = x k + 1 := by unfold bump; rw [if_pos rfl]
theorem bump_ne (x : Nat → Nat) {k q : Nat} (h : q ≠ k) : bump x k q = x q := by unfold bump; rw [if_neg h]
theorem sum_bump : ∀ {l : List Slot} {x : Nat → Nat} {i : Slot}, (l.map fun s => s.key).Nodup → i ∈ l → Vbchah.sum (l.map fun s => bump x i.key s.key) = Vbchah.sum (l.map fun s => x s.key) + 1
  | a :: l, x, i, h, hi => by
    rw [List.map_cons, List.nodup_cons] at h
    rw [List.map_cons, List.map_cons, sum_cons, sum_cons]
    rcases List.mem_cons.mp hi with rfl | hi
    · rw [bump_same]
      have : Vbchah.sum (l.map fun s => bump x i.key s.key) = Vbchah.sum (l.map fun s => x s.key) := sum_map_congr fun s hs => bump_ne x fun e => h.1 (List.mem_map.mpr ⟨s, hs, e⟩)
      omega
    · rw [bump_ne x (fun e => h.1 (List.mem_map.mpr ⟨i, hi, e.symm⟩)), sum_bump h.2 hi]
      omega
def Takes (l : List Slot) (x : Nat → Nat) (i : Slot) : Prop :=
  x i.key < i.cap ∧ ∀ j ∈ l, x j.key < j.cap → (x i.key + 1) * j.weight ≤ (x j.key + 1) * i.weight ∧ ((x i.key + 1) * j.weight = (x j.key + 1) * i.weight → i.key ≤ j.key)
theorem Right.step {l : List Slot} {a : Nat} {x : Nat → Nat} (G : Good l) (R : Right l a x) {i : Slot} (hi : i ∈ l) (T : Takes l x i) : Right l (a + 1) (bump x i.key) := by
  refine ⟨fun s hs => ?_, by rw [sum_bump G.keys hi, R.sum], fun p hp q hq h1 h2 => ?_⟩
  · by_cases e : s.key = i.key
    · have := key_inj G.keys hs hi e
      subst this
      rw [bump_same]
      exact T.1
    · rw [bump_ne x e]
      exact R.cap s hs
  · rw [sooner_false]
    by_cases ep : p.key = i.key
    · have := key_inj G.keys hp hi ep
      subst this
      rw [bump_same]
      by_cases eq : q.key = p.key
      · have := key_inj G.keys hq hi eq
        subst this
        rw [bump_same]
        have hw := G.pos q hq
        have : (x q.key + 1 + 1) * q.weight = (x q.key + 1) * q.weight + q.weight := Nat.succ_mul _ _
        exact ⟨by omega, fun _ => by omega⟩
      · rw [bump_ne x eq] at h2 ⊢
        obtain ⟨t1, t2⟩ := T.2 q hq h2
        exact ⟨t1, fun e => by have := t2 e; omega⟩
    · rw [bump_ne x ep] at h1 ⊢
      by_cases eq : q.key = i.key
      · have := key_inj G.keys hq hi eq
        subst this
        rw [bump_same] at h2 ⊢
        obtain ⟨t1, t2⟩ := sooner_false.mp (R.ord p hp q hq h1 T.1)
        have hw := G.pos p hp
        have : (x q.key + 1 + 1) * p.weight = (x q.key + 1) * p.weight + p.weight := Nat.succ_mul _ _
        exact ⟨by omega, fun e => by omega⟩
      · rw [bump_ne x eq] at h2 ⊢
        exact sooner_false.mp (R.ord p hp q hq h1 h2)
theorem right_zero (l : List Slot) : Right l 0 fun _ => 0 :=
  ⟨fun _ _ => Nat.zero_le _, by induction l with
    | nil => rfl
    | cons a l ih => rw [List.map_cons, sum_cons, ih], fun _ _ _ _ h _ => absurd h (Nat.lt_irrefl 0)⟩
theorem frac_le {a b c u v w : Nat} (hv : 0 < v) (h1 : a * v ≤ b * u) (h2 : b * w ≤ c * v) : a * w ≤ c * u := by
  refine Nat.le_of_mul_le_mul_right ?_ hv
  calc a * w * v = a * v * w := Nat.mul_right_comm _ _ _
    _ ≤ b * u * w := Nat.mul_le_mul_right _ h1
    _ = b * w * u := Nat.mul_right_comm _ _ _
    _ ≤ c * v * u := Nat.mul_le_mul_right _ h2
    _ = c * u * v := Nat.mul_right_comm _ _ _
theorem frac_lt {a b c u v w : Nat} (hv : 0 < v) (hu : 0 < u) (h1 : a * v ≤ b * u) (h2 : b * w < c * v) : a * w < c * u := by
  refine Nat.lt_of_mul_lt_mul_right (a := v) ?_
  calc a * w * v = a * v * w := Nat.mul_right_comm _ _ _
    _ ≤ b * u * w := Nat.mul_le_mul_right _ h1
    _ = b * w * u := Nat.mul_right_comm _ _ _
    _ < c * v * u := Nat.mul_lt_mul_of_pos_right h2 hu
    _ = c * u * v := Nat.mul_right_comm _ _ _
theorem frac_lt' {a b c u v w : Nat} (hv : 0 < v) (hw : 0 < w) (h1 : a * v < b * u) (h2 : b * w ≤ c * v) : a * w < c * u := by
  refine Nat.lt_of_mul_lt_mul_right (a := v) ?_
  calc a * w * v = a * v * w := Nat.mul_right_comm _ _ _
    _ < b * u * w := Nat.mul_lt_mul_of_pos_right h1 hw
    _ = b * w * u := Nat.mul_right_comm _ _ _
    _ ≤ c * v * u := Nat.mul_le_mul_right _ h2
    _ = c * u * v := Nat.mul_right_comm _ _ _
def Best (pre : List Slot) (x : Nat → Nat) (i : Slot) : Prop := i ∈ pre ∧ Takes pre x i
theorem best_first {pre : List Slot} {x : Nat → Nat} {b : Slot} (hb : x b.key < b.cap) (h : ∀ j ∈ pre, ¬ x j.key < j.cap) : Best (pre ++ [b]) x b := by
  refine ⟨by simp, hb, fun j hj hx => ?_⟩
  rcases List.mem_append.mp hj with q | q
  · exact absurd hx (h j q)
  · rw [List.mem_singleton.mp q]
    exact ⟨Nat.le_refl _, fun _ => Nat.le_refl _⟩
theorem best_full {pre : List Slot} {x : Nat → Nat} {b t : Slot} (B : Best pre x t) (hb : ¬ x b.key < b.cap) : Best (pre ++ [b]) x t := by
  refine ⟨List.mem_append.mpr (.inl B.1), B.2.1, fun j hj hx => ?_⟩
  rcases List.mem_append.mp hj with q | q
  · exact B.2.2 j q hx
  · rw [List.mem_singleton.mp q] at hx
    exact absurd hx hb
theorem best_new {pre : List Slot} {x : Nat → Nat} {b t : Slot} (B : Best pre x t) (pos : ∀ s ∈ pre ++ [b], 0 < s.weight) (hb : x b.key < b.cap) (h : (x b.key + 1) * t.weight < (x t.key + 1) * b.weight) : Best (pre ++ [b]) x b := by
  refine ⟨by simp, hb, fun j hj hx => ?_⟩
  rcases List.mem_append.mp hj with q | q
  · have t1 := (B.2.2 j q hx).1
    have := frac_lt' (pos t (List.mem_append.mpr (.inl B.1))) (pos j hj) h t1
    exact ⟨by omega, fun e => by omega⟩
  · rw [List.mem_singleton.mp q]
    exact ⟨Nat.le_refl _, fun _ => Nat.le_refl _⟩
theorem best_old {pre : List Slot} {x : Nat → Nat} {b t : Slot} (B : Best pre x t) (hk : t.key ≤ b.key) (h : ¬ (x b.key + 1) * t.weight < (x t.key + 1) * b.weight) : Best (pre ++ [b]) x t := by
  refine ⟨List.mem_append.mpr (.inl B.1), B.2.1, fun j hj hx => ?_⟩
  rcases List.mem_append.mp hj with q | q
  · exact B.2.2 j q hx
  · rw [List.mem_singleton.mp q]
    exact ⟨by omega, fun _ => hk⟩
abbrev Rising (l : List Slot) : Prop := l.Pairwise fun a b => a.key < b.key
theorem Rising.nodup {l : List Slot} (h : Rising l) : (l.map fun s => s.key).Nodup := by
  rw [List.Nodup, List.pairwise_map]
  exact h.imp fun q => Nat.ne_of_lt q
theorem best_ex : ∀ (n : Nat) (l : List Slot), l.length = n → Rising l → (∀ s ∈ l, 0 < s.weight) → ∀ x : Nat → Nat, (∀ j ∈ l, ¬ x j.key < j.cap) ∨ ∃ t, Best l x t
  | 0, l, hn, _, _, x => by
    rw [List.length_eq_zero_iff] at hn
    subst hn
    exact .inl fun j hj => absurd hj List.not_mem_nil
  | n + 1, l, hn, hr, hp, x => by
    obtain ⟨pre, b, rfl⟩ : ∃ pre b, l = pre ++ [b] := ⟨l.dropLast, l.getLast (by intro e; subst e; cases hn), (List.dropLast_concat_getLast _).symm⟩
    rw [List.length_append, List.length_singleton] at hn
    have hr2 := List.pairwise_append.mp hr
    rcases best_ex n pre (by omega) hr2.1 (fun s hs => hp s (List.mem_append.mpr (.inl hs))) x with h | ⟨t, B⟩
    · by_cases hb : x b.key < b.cap
      · exact .inr ⟨b, best_first hb h⟩
      · refine .inl fun j hj => ?_
        rcases List.mem_append.mp hj with q | q
        · exact h j q
        · rw [List.mem_singleton.mp q]; exact hb
    · by_cases hb : x b.key < b.cap
      · by_cases hc : (x b.key + 1) * t.weight < (x t.key + 1) * b.weight
        · exact .inr ⟨b, best_new B hp hb hc⟩
        · exact .inr ⟨t, best_old B (Nat.le_of_lt (hr2.2.2 t B.1 b (List.mem_singleton.mpr rfl))) hc⟩
      · exact .inr ⟨t, best_full B hb⟩
theorem Right.more {l : List Slot} {a : Nat} {x : Nat → Nat} (hr : Rising l) (G : Good l) (R : Right l a x) (h : a < room l) : ∃ t, Best l x t := by
  rcases best_ex _ l rfl hr G.pos x with q | q
  · exfalso
    have : Vbchah.sum (l.map fun s => s.cap) ≤ Vbchah.sum (l.map fun s => x s.key) := sum_map_le fun s hs => by have := q s hs; omega
    rw [R.sum] at this
    unfold room at h
    omega
  · exact q
theorem right_ex {l : List Slot} (hr : Rising l) (G : Good l) : ∀ a, a ≤ room l → ∃ x, Right l a x
  | 0, _ => ⟨_, right_zero l⟩
  | a + 1, h => by
    obtain ⟨x, R⟩ := right_ex hr G a (by omega)
    obtain ⟨t, T⟩ := R.more hr G (by omega)
    exact ⟨_, R.step G T.1 T.2⟩
theorem right_portion {l : List Slot} (hr : Rising l) (G : Good l) {a : Nat} (h : a ≤ room l) (x : Nat → Nat) (hx : ∀ i ∈ l, x i.key = portion l a i) : Right l a x := by
  obtain ⟨y, R⟩ := right_ex hr G a h
  have e : ∀ i ∈ l, x i.key = y i.key := fun i hi => by rw [hx i hi, R.portion G hi]
  refine ⟨fun s hs => by rw [e s hs]; exact R.cap s hs, by rw [← R.sum]; exact sum_map_congr e, fun i hi j hj h1 h2 => ?_⟩
  rw [e i hi] at h1 ⊢
  rw [e j hj] at h2 ⊢
  exact R.ord i hi j hj h1 h2
end Lb
end
section
set_option linter.all false
namespace Lb
open Vbchah (Slot rank ahead portion room search heavy light shareOf sooner)
def wsum (l : List Slot) : Nat := Vbchah.sum (l.map fun s => s.weight)
theorem sum_filter {α : Type} (p : α → Bool) (f : α → Nat) : ∀ l : List α, Vbchah.sum (l.map f) = Vbchah.sum ((l.filter p).map f) + Vbchah.sum ((l.filter fun s => !p s).map f)
  | [] => rfl
  | a :: l => by
    have ih := sum_filter p f l
    rw [List.map_cons, sum_cons]
    cases h : p a
    · rw [List.filter_cons_of_neg (by simp [h]), List.filter_cons_of_pos (by simp [h]), List.map_cons, sum_cons]
      omega
    · rw [List.filter_cons_of_pos h, List.filter_cons_of_neg (by simp [h]), List.map_cons, sum_cons]
      omega
theorem sum_mul {α : Type} (f : α → Nat) (c : Nat) : ∀ l : List α, Vbchah.sum (l.map f) * c = Vbchah.sum (l.map fun s => f s * c)
  | [] => by rw [List.map_nil, List.map_nil, sum_nil, Nat.zero_mul]
  | a :: l => by rw [List.map_cons, List.map_cons, sum_cons, sum_cons, Nat.add_mul, sum_mul f c l]
theorem sum_mulL {α : Type} (f : α → Nat) (c : Nat) : ∀ l : List α, c * Vbchah.sum (l.map f) = Vbchah.sum (l.map fun s => c * f s)
  | [] => by rw [List.map_nil, List.map_nil, sum_nil, Nat.mul_zero]
  | a :: l => by rw [List.map_cons, List.map_cons, sum_cons, sum_cons, Nat.mul_add, sum_mulL f c l]
theorem wsum_pos {l : List Slot} (pos : ∀ s ∈ l, 0 < s.weight) (h : l ≠ []) : 0 < wsum l := by
  match l, h with
  | a :: l, _ =>
    have := pos a (List.mem_cons_self ..)
    unfold wsum
    rw [List.map_cons, sum_cons]
    omega
def fulls (wt : List Slot) (L : Nat) : List Slot := wt.filter fun s => decide (s.cap * wsum wt ≤ L * s.weight)
def rests (wt : List Slot) (L : Nat) : List Slot := wt.filter fun s => !decide (s.cap * wsum wt ≤ L * s.weight)
theorem fulls_mul (wt : List Slot) (L : Nat) : room (fulls wt L) * wsum wt ≤ L * wsum (fulls wt L) := by
  show Vbchah.sum _ * _ ≤ L * Vbchah.sum _
  rw [sum_mul, sum_mulL]
  exact sum_map_le fun s hs => of_decide_eq_true (List.mem_filter.mp hs).2
theorem wsum_split (wt : List Slot) (L : Nat) : wsum wt = wsum (fulls wt L) + wsum (rests wt L) := sum_filter _ _ wt
theorem room_split (wt : List Slot) (L : Nat) : room wt = room (fulls wt L) + room (rests wt L) := sum_filter _ _ wt
theorem fulls_le {wt : List Slot} {L : Nat} (hW : 0 < wsum wt) : room (fulls wt L) ≤ L := by
  refine Nat.le_of_mul_le_mul_right ?_ hW
  have h1 := fulls_mul wt L
  have h2 : L * wsum (fulls wt L) ≤ L * wsum wt := Nat.mul_le_mul_left _ (by have := wsum_split wt L; omega)
  omega
theorem rests_mul {wt : List Slot} {L : Nat} : L * wsum (rests wt L) ≤ (L - room (fulls wt L)) * wsum wt := by
  have h1 := fulls_mul wt L
  have h2 : L * wsum wt = L * wsum (fulls wt L) + L * wsum (rests wt L) := by rw [← Nat.mul_add, ← wsum_split]
  rw [Nat.sub_mul]
  omega
theorem level_up {wt : List Slot} {L c w : Nat} (hW : 0 < wsum wt) (h : c * wsum wt ≤ L * w) : c * wsum (rests wt L) ≤ (L - room (fulls wt L)) * w := by
  have h1 := rests_mul (wt := wt) (L := L)
  refine frac_le (b := L) hW ?_ h1
  exact h
structure Filling (l : List Slot) (units : Nat) (p : Slot → Bool) (wt : List Slot) (left : Nat) : Prop where
  ewt : wt = l.filter fun s => !p s
  esum : Vbchah.room (l.filter p) + left = units
  eroom : left ≤ Vbchah.room wt
  lev : ∀ s ∈ l, p s = true → s.cap * wsum wt ≤ left * s.weight
theorem filling_start {l : List Slot} {units : Nat} (h : units ≤ room l) : Filling l units (fun _ => false) l units := by
  refine ⟨(List.filter_eq_self.mpr fun _ _ => rfl).symm, ?_, h, fun _ _ q => nomatch q⟩
  have : l.filter (fun _ => false) = [] := List.filter_eq_nil_iff.mpr fun _ _ => by simp
  rw [this]
  exact Nat.zero_add _
theorem filter_filter_not {l : List Slot} (p q : Slot → Bool) : (l.filter fun s => !p s).filter (fun s => !q s) = l.filter fun s => !(p s || q s) := by
  rw [List.filter_filter]
  congr 1
  funext s
  cases p s <;> cases q s <;> rfl
theorem Filling.turn {l : List Slot} {units : Nat} {p : Slot → Bool} {wt : List Slot} {left : Nat} (pos : ∀ s ∈ l, 0 < s.weight) (F : Filling l units p wt left) (hne : fulls wt left ≠ []) :
    Filling l units (fun s => p s || decide (s.cap * wsum wt ≤ left * s.weight)) (rests wt left) (left - room (fulls wt left)) ∧ room (fulls wt left) ≤ left ∧ (rests wt left).length < wt.length := by
  have hwt0 : wt ≠ [] := fun e => by subst e; exact hne rfl
  have posW : ∀ s ∈ wt, 0 < s.weight := fun s hs => by
    rw [F.ewt] at hs
    exact pos s (List.mem_filter.mp hs).1
  have hW := wsum_pos posW hwt0
  have hle := fulls_le (L := left) hW
  have hrs := room_split wt left
  refine ⟨⟨?_, ?_, ?_, fun s hs q => ?_⟩, hle, ?_⟩
  · unfold rests
    conv => lhs; arg 2; rw [F.ewt]
    exact filter_filter_not _ _
  · have e1 : room (l.filter fun s => p s || decide (s.cap * wsum wt ≤ left * s.weight)) = room (l.filter p) + room (fulls wt left) := by
      have a1 : room l = room (l.filter p) + room (l.filter fun s => !p s) := sum_filter p (fun s => s.cap) l
      have a2 : room l = room (l.filter fun s => p s || decide (s.cap * wsum wt ≤ left * s.weight)) + room (l.filter fun s => !(p s || decide (s.cap * wsum wt ≤ left * s.weight))) := sum_filter (fun s : Slot => p s || decide (s.cap * wsum wt ≤ left * s.weight)) (fun s : Slot => s.cap) l
      have a3 : rests wt left = l.filter fun s => !(p s || decide (s.cap * wsum wt ≤ left * s.weight)) := by
        unfold rests
        conv => lhs; arg 2; rw [F.ewt]
        exact filter_filter_not _ _
      rw [← a3] at a2
      rw [← F.ewt] at a1
      omega
    have := F.esum
    omega
  · have := F.eroom
    omega
  · refine level_up hW ?_
    rw [Bool.or_eq_true] at q
    rcases q with q | q
    · exact F.lev s hs q
    · exact of_decide_eq_true q
  · have hl : wt.length = (fulls wt left).length + (rests wt left).length := by
      unfold fulls rests
      rw [← List.countP_eq_length_filter, ← List.countP_eq_length_filter, List.length_eq_countP_add_countP (fun s => decide (s.cap * wsum wt ≤ left * s.weight))]
      congr 1
      congr 1
      funext s
      cases decide (s.cap * wsum wt ≤ left * s.weight) <;> rfl
    have : 0 < (fulls wt left).length := List.length_pos_iff.mpr hne
    omega
theorem right_level {l : List Slot} {a : Nat} {x : Nat → Nat} {L W : Nat} (pos : ∀ s ∈ l, 0 < s.weight) (hW : 0 < W) (hs : Vbchah.sum (l.map fun s => x s.key) = a)
    (h : ∀ s ∈ l, (x s.key = s.cap ∧ s.cap * W ≤ L * s.weight) ∨ (x s.key = L * s.weight / W ∧ L * s.weight < s.cap * W)) : Right l a x := by
  have up : ∀ s ∈ l, x s.key ≤ s.cap ∧ x s.key * W ≤ L * s.weight := fun s hs => by
    rcases h s hs with ⟨e, q⟩ | ⟨e, q⟩
    · rw [e]; exact ⟨Nat.le_refl _, q⟩
    · rw [e]
      have h1 := Nat.div_mul_le_self (L * s.weight) W
      refine ⟨?_, h1⟩
      exact Nat.le_of_mul_le_mul_right (Nat.le_trans h1 (Nat.le_of_lt q)) hW
  refine ⟨fun s hs => (up s hs).1, hs, fun i hi j hj h1 h2 => ?_⟩
  have hlt : L * j.weight < (x j.key + 1) * W := by
    rcases h j hj with ⟨e, q⟩ | ⟨e, q⟩
    · omega
    · rw [e]
      have := Nat.lt_div_mul_add hW (a := L * j.weight)
      rw [Nat.succ_mul]
      omega
  rw [sooner_false]
  have : x i.key * j.weight < (x j.key + 1) * i.weight := frac_lt hW (pos i hi) (up i hi).2 hlt
  exact ⟨by omega, fun e => by omega⟩
theorem Filling.sums {l : List Slot} {units : Nat} {p : Slot → Bool} {wt : List Slot} {left : Nat} (F : Filling l units p wt left) (f : Slot → Nat) (h : ∀ s ∈ l, p s = true → f s = s.cap) :
    Vbchah.sum (l.map f) + left = units + Vbchah.sum (wt.map f) := by
  have a1 := sum_filter p f l
  rw [← F.ewt] at a1
  have a2 : Vbchah.sum ((l.filter p).map f) = room (l.filter p) := sum_map_congr fun s hs => h s (List.mem_filter.mp hs).1 (List.mem_filter.mp hs).2
  have := F.esum
  omega
theorem floors_le (wt : List Slot) (left : Nat) : Vbchah.sum (wt.map fun s => left * s.weight / wsum wt) ≤ left := by
  rcases Nat.eq_zero_or_pos (wsum wt) with h | h
  · have : Vbchah.sum (wt.map fun s => left * s.weight / wsum wt) = Vbchah.sum (wt.map fun _ => 0) := sum_map_congr fun s _ => by rw [h, Nat.div_zero]
    rw [this]
    have z : ∀ l : List Slot, Vbchah.sum (l.map fun _ => 0) = 0 := fun l => by
      induction l with
      | nil => rfl
      | cons a l ih => rw [List.map_cons, sum_cons, ih]
    rw [z]; exact Nat.zero_le _
  · refine Nat.le_of_mul_le_mul_right ?_ h
    rw [sum_mul]
    have : left * wsum wt = Vbchah.sum (wt.map fun s => left * s.weight) := sum_mulL _ _ _
    rw [this]
    exact sum_map_le fun s _ => Nat.div_mul_le_self _ _
theorem Filling.ends {l : List Slot} {units : Nat} {p : Slot → Bool} {wt : List Slot} {left : Nat} {x : Nat → Nat} (pos : ∀ s ∈ l, 0 < s.weight) (F : Filling l units p wt left) (hno : fulls wt left = [])
    (hx : ∀ s ∈ l, x s.key = if p s = true then s.cap else left * s.weight / wsum wt) :
    ∃ r, left = Vbchah.sum (wt.map fun s => x s.key) + r ∧ r ≤ units ∧ Right l (units - r) x := by
  have hxw : ∀ s ∈ wt, x s.key = left * s.weight / wsum wt := fun s hs => by
    rw [F.ewt] at hs
    have hs := List.mem_filter.mp hs
    rw [hx s hs.1, if_neg (by intro q; rw [q] at hs; exact nomatch hs.2)]
  have hle : Vbchah.sum (wt.map fun s => x s.key) ≤ left := by
    rw [sum_map_congr hxw]
    exact floors_le wt left
  have hs := F.sums (fun s => x s.key) fun s hs q => by
    show x s.key = s.cap
    rw [hx s hs, if_pos q]
  have hsum := F.esum
  refine ⟨left - Vbchah.sum (wt.map fun s => x s.key), by omega, by omega, ?_⟩
  have hs2 : Vbchah.sum (l.map fun s => x s.key) = units - (left - Vbchah.sum (wt.map fun s => x s.key)) := by
    have : (fun s : Slot => x s.key) = fun s => x s.key := rfl
    omega
  by_cases hw : wt = []
  · -- all are filled
    have all : ∀ s ∈ l, x s.key = s.cap := fun s hs => by
      have hp : p s = true := by
        cases q : p s with
        | true => rfl
        | false =>
          have : s ∈ wt := by rw [F.ewt]; exact List.mem_filter.mpr ⟨hs, by simp [q]⟩
          rw [hw] at this
          exact absurd this List.not_mem_nil
      rw [hx s hs, if_pos hp]
    refine ⟨fun s hs => by rw [all s hs]; exact Nat.le_refl _, hs2, fun i _ j hj _ h2 => ?_⟩
    rw [all j hj] at h2
    exact absurd h2 (Nat.lt_irrefl _)
  · have posW : ∀ s ∈ wt, 0 < s.weight := fun s hs => by
      rw [F.ewt] at hs
      exact pos s (List.mem_filter.mp hs).1
    have hW := wsum_pos posW hw
    refine right_level (L := left) (W := wsum wt) pos hW hs2 fun s hs => ?_
    rw [hx s hs]
    by_cases q : p s = true
    · rw [if_pos q]
      exact .inl ⟨rfl, F.lev s hs q⟩
    · rw [if_neg q]
      refine .inr ⟨rfl, ?_⟩
      have hsw : s ∈ wt := by rw [F.ewt]; exact List.mem_filter.mpr ⟨hs, by simp [q]⟩
      have : s ∉ fulls wt left := by rw [hno]; exact List.not_mem_nil
      rcases Nat.lt_or_ge (left * s.weight) (s.cap * wsum wt) with z | z
      · exact z
      · exact absurd (List.mem_filter.mpr ⟨hsw, decide_eq_true z⟩) this
theorem best_ext {l wt : List Slot} {x : Nat → Nat} {t : Slot} (sub : ∀ s ∈ wt, s ∈ l) (oth : ∀ s ∈ l, s ∈ wt ∨ ¬ x s.key < s.cap) (B : Best wt x t) : Best l x t := by
  refine ⟨sub _ B.1, B.2.1, fun j hj hx => ?_⟩
  rcases oth j hj with q | q
  · exact B.2.2 j q hx
  · exact absurd hx q
end Lb
end
section
set_option linter.all false
namespace Lb
open Vbchah (Slot rank ahead portion room search heavy light shareOf sooner shares rightShares pairsRight unitOf)
structure Fine (l : List Slot) : Prop where
  rising : Rising l
  caps : ∀ s ∈ l, s.cap < 2 ^ 64
theorem mem_heavy {l : List Slot} {s : Slot} : s ∈ heavy l ↔ s ∈ l ∧ s.weight ≠ 0 := by
  unfold heavy
  rw [List.mem_filter, bne_iff_ne]
def asOne (s : Slot) : Slot := ⟨s.key, 1, s.cap⟩
theorem light_eq (l : List Slot) : light l = (l.filter fun x => x.weight == 0).map asOne := rfl
theorem mem_light {l : List Slot} {t : Slot} : t ∈ light l ↔ ∃ s ∈ l, s.weight = 0 ∧ asOne s = t := by
  rw [light_eq, List.mem_map]
  constructor
  · rintro ⟨s, hs, e⟩
    have h := List.mem_filter.mp hs
    exact ⟨s, h.1, eq_of_beq h.2, e⟩
  · rintro ⟨s, hs, h0, e⟩
    exact ⟨s, List.mem_filter.mpr ⟨hs, by rw [h0]; rfl⟩, e⟩
theorem Fine.heavyR {l : List Slot} (F : Fine l) : Rising (heavy l) := F.rising.filter _
theorem Fine.heavyG {l : List Slot} (F : Fine l) : Good (heavy l) :=
  ⟨F.heavyR.nodup, fun s hs => Nat.pos_of_ne_zero (mem_heavy.mp hs).2, fun s hs => F.caps s (mem_heavy.mp hs).1⟩
theorem Fine.lightR {l : List Slot} (F : Fine l) : Rising (light l) := by
  rw [light_eq, Rising, List.pairwise_map]
  exact F.rising.filter _
theorem Fine.lightG {l : List Slot} (F : Fine l) : Good (light l) := by
  refine ⟨F.lightR.nodup, fun t ht => ?_, fun t ht => ?_⟩
  · obtain ⟨s, _, _, rfl⟩ := mem_light.mp ht
    exact Nat.one_pos
  · obtain ⟨s, hs, _, rfl⟩ := mem_light.mp ht
    exact F.caps s hs
theorem filt_split (f : Slot → Nat) (l : List Slot) : Vbchah.sum (l.map f) = Vbchah.sum ((heavy l).map f) + Vbchah.sum ((l.filter fun x => x.weight == 0).map f) := by
  have h := sum_filter (fun x : Slot => x.weight != 0) f l
  have e : (fun s : Slot => !(s.weight != 0)) = fun x => x.weight == 0 := by
    funext s
    simp [bne]
  rw [e] at h
  exact h
theorem light_sum (x : Nat → Nat) (l : List Slot) : Vbchah.sum ((l.filter fun x => x.weight == 0).map fun s => x s.key) = Vbchah.sum ((light l).map fun s => x s.key) := by
  rw [light_eq, List.map_map]
  rfl
theorem room_parts (l : List Slot) : room l = room (heavy l) + room (light l) := by
  have h := filt_split (fun s => s.cap) l
  have e : Vbchah.sum ((l.filter fun x => x.weight == 0).map fun s => s.cap) = room (light l) := by
    unfold room
    rw [light_eq, List.map_map]
    rfl
  rw [e] at h
  exact h
structure RS (l : List Slot) (a : Nat) (x : Nat → Nat) : Prop where
  hv : Right (heavy l) (min a (room (heavy l))) x
  lt : Right (light l) (a - room (heavy l)) x
theorem RS.share {l : List Slot} {a : Nat} {x : Nat → Nat} (F : Fine l) (R : RS l a x) {s : Slot} (hs : s ∈ l) : shareOf l a s = x s.key := by
  unfold shareOf
  by_cases h0 : s.weight = 0
  · rw [if_pos h0]
    exact R.lt.portion F.lightG (i := asOne s) (mem_light.mpr ⟨s, hs, h0, rfl⟩)
  · rw [if_neg h0, ← portion_clip]
    exact R.hv.portion F.heavyG (mem_heavy.mpr ⟨hs, h0⟩)
theorem RS.sum {l : List Slot} {a : Nat} {x : Nat → Nat} (R : RS l a x) : Vbchah.sum (l.map fun s => x s.key) = a := by
  rw [filt_split, light_sum, R.hv.sum, R.lt.sum]
  omega
theorem RS.cap {l : List Slot} {a : Nat} {x : Nat → Nat} (R : RS l a x) {s : Slot} (hs : s ∈ l) : x s.key ≤ s.cap := by
  by_cases h0 : s.weight = 0
  · exact R.lt.cap (asOne s) (mem_light.mpr ⟨s, hs, h0, rfl⟩)
  · exact R.hv.cap s (mem_heavy.mpr ⟨hs, h0⟩)
theorem RS.le {l : List Slot} {a : Nat} {x : Nat → Nat} (R : RS l a x) : a ≤ room l := by
  rw [← R.sum]
  exact sum_map_le fun s hs => R.cap hs
theorem rs_of {l : List Slot} {a : Nat} {x : Nat → Nat} (F : Fine l) (ha : a ≤ room l) (h : ∀ s ∈ l, x s.key = shareOf l a s) : RS l a x := by
  have hr := room_parts l
  refine ⟨right_portion F.heavyR F.heavyG (Nat.min_le_right _ _) x fun i hi => ?_, right_portion F.lightR F.lightG (by omega) x fun i hi => ?_⟩
  · rw [portion_clip, h i (mem_heavy.mp hi).1]
    unfold shareOf
    rw [if_neg (mem_heavy.mp hi).2]
  · obtain ⟨s, hs, h0, rfl⟩ := mem_light.mp hi
    show x s.key = _
    rw [h s hs]
    unfold shareOf
    rw [if_pos h0]
    rfl
def byKey : List Slot → (Slot → Nat) → Nat → Nat
  | [], _, _ => 0
  | s :: l, f, k => if s.key = k then f s else byKey l f k
theorem byKey_at : ∀ {l : List Slot} {f : Slot → Nat}, Rising l → ∀ s ∈ l, byKey l f s.key = f s
  | a :: l, f, hr, s, hs => by
    unfold byKey
    by_cases e : a.key = s.key
    · rw [if_pos e, key_inj hr.nodup (List.mem_cons_self ..) hs e]
    · rw [if_neg e]
      rcases List.mem_cons.mp hs with rfl | hs
      · exact absurd rfl e
      · exact byKey_at (List.pairwise_cons.mp hr).2 s hs
theorem rs_ex {l : List Slot} {a : Nat} (F : Fine l) (ha : a ≤ room l) : RS l a (byKey l (shareOf l a)) := rs_of F ha fun s hs => byKey_at F.rising s hs
theorem share_sum {l : List Slot} {a : Nat} (F : Fine l) (ha : a ≤ room l) : Vbchah.sum (shares l a) = a := by
  have h := (rs_ex F ha).sum
  rw [sum_map_congr fun s hs => byKey_at F.rising s hs] at h
  exact h
theorem share_cap {l : List Slot} (F : Fine l) {a : Nat} {s : Slot} (hs : s ∈ l) : shareOf l a s ≤ s.cap := by
  unfold shareOf
  split
  · exact (portion_spec (light l) _ (i := ⟨s.key, 1, s.cap⟩) (F.caps s hs)).1
  · exact (portion_spec (heavy l) _ (F.caps s hs)).1
theorem portion_mono (l : List Slot) {a b : Nat} (h : a ≤ b) {i : Slot} (hc : i.cap < 2 ^ 64) : portion l a i ≤ portion l b i := by
  obtain ⟨h1, h2⟩ := portion_spec l a hc
  obtain ⟨_, h3⟩ := portion_spec l b hc
  exact (h3 _ h1).mp (Nat.le_trans ((h2 _ h1).mpr (Nat.le_refl _)) h)
theorem share_mono {l : List Slot} (F : Fine l) {a b : Nat} (h : a ≤ b) {s : Slot} (hs : s ∈ l) : shareOf l a s ≤ shareOf l b s := by
  unfold shareOf
  split
  · exact portion_mono _ (by omega) (i := ⟨s.key, 1, s.cap⟩) (F.caps s hs)
  · exact portion_mono _ h (F.caps s hs)
theorem unit_one {l : List Slot} (F : Fine l) {u : Nat} (h0 : 0 < u) (hu : u ≤ room l) {i j : Slot} (hi : i ∈ l) (hj : j ∈ l) (ni : shareOf l u i ≠ shareOf l (u - 1) i) (nj : shareOf l u j ≠ shareOf l (u - 1) j) : i = j := by
  by_cases e : i = j
  · exact e
  · exfalso
    have s1 := share_sum F hu
    have s2 := share_sum F (a := u - 1) (by omega)
    have mono : ∀ s ∈ l, shareOf l (u - 1) s ≤ shareOf l u s := fun s hs => share_mono F (by omega) hs
    have two : ∀ (m : List Slot), (∀ s ∈ m, shareOf l (u - 1) s ≤ shareOf l u s) → i ∈ m → j ∈ m → Vbchah.sum (m.map (shareOf l (u - 1))) + 2 ≤ Vbchah.sum (m.map (shareOf l u)) := by
      intro m
      induction m with
      | nil => intro _ h; exact absurd h List.not_mem_nil
      | cons b m ih =>
        intro hm hi hj
        rw [List.map_cons, List.map_cons, sum_cons, sum_cons]
        have hb := hm b (List.mem_cons_self ..)
        have hm' : ∀ s ∈ m, shareOf l (u - 1) s ≤ shareOf l u s := fun s hs => hm s (List.mem_cons_of_mem _ hs)
        have hle := sum_map_le hm'
        rcases List.mem_cons.mp hi with ei | mi <;> rcases List.mem_cons.mp hj with ej | mj
        · exact absurd (ei.trans ej.symm) e
        · have := sum_map_lt hm' mj (by have := hm' j mj; omega)
          rw [ei] at ni
          omega
        · have := sum_map_lt hm' mi (by have := hm' i mi; omega)
          rw [ej] at nj
          omega
        · have := ih hm' mi mj
          omega
    have := two l mono hi hj
    unfold shares at s1 s2
    omega
theorem unit_ex {l : List Slot} (F : Fine l) {u : Nat} (h0 : 0 < u) (hu : u ≤ room l) : ∃ i ∈ l, shareOf l u i ≠ shareOf l (u - 1) i := by
  have s1 := share_sum F hu
  have s2 := share_sum F (a := u - 1) (by omega)
  refine Classical.byContradiction fun h => ?_
  have all : ∀ i ∈ l, shareOf l u i = shareOf l (u - 1) i := fun i hi => Classical.byContradiction fun q => h ⟨i, hi, q⟩
  have := sum_map_congr all
  unfold shares at s1 s2
  omega
theorem unit_is {l : List Slot} (F : Fine l) {u : Nat} (h0 : 0 < u) (hu : u ≤ room l) {i : Slot} (hi : i ∈ l) (ni : shareOf l u i ≠ shareOf l (u - 1) i) : unitOf l u = i.key := by
  unfold unitOf
  cases e : l.find? fun i => shareOf l u i != shareOf l (u - 1) i with
  | none =>
    have := List.find?_eq_none.mp e i hi
    rw [bne_iff_ne] at this
    exact absurd ni this
  | some j =>
    have hj := List.mem_of_find?_eq_some e
    have hn := List.find?_some e
    rw [bne_iff_ne] at hn
    rw [unit_one F h0 hu hi hj ni hn]
theorem pairs_iff {x : Nat → Nat} {l : List Slot} : pairsRight (l.map fun s => (s, x s.key)) = true ↔ ∀ i ∈ l, ∀ j ∈ l, 0 < x i.key → x j.key < j.cap → sooner j (x j.key) i (x i.key) = false := by
  unfold pairsRight
  rw [List.all_eq_true]
  constructor
  · intro h i hi j hj h1 h2
    have a := h (i, x i.key) (List.mem_map.mpr ⟨i, hi, rfl⟩)
    rw [Bool.or_eq_true] at a
    rcases a with a | a
    · have := eq_of_beq a
      dsimp only at this
      omega
    · have b := List.all_eq_true.mp a (j, x j.key) (List.mem_map.mpr ⟨j, hj, rfl⟩)
      rw [Bool.or_eq_true] at b
      rcases b with b | b
      · have := of_decide_eq_true b
        dsimp only at this
        omega
      · cases q : sooner j (x j.key) i (x i.key) with
        | false => rfl
        | true =>
          dsimp only at b
          rw [q] at b
          exact nomatch b
  · intro h p hp
    obtain ⟨i, hi, rfl⟩ := List.mem_map.mp hp
    rw [Bool.or_eq_true]
    dsimp only
    rcases Nat.eq_zero_or_pos (x i.key) with h0 | h0
    · exact .inl (by rw [h0]; rfl)
    · refine .inr (List.all_eq_true.mpr fun q hq => ?_)
      obtain ⟨j, hj, rfl⟩ := List.mem_map.mp hq
      rw [Bool.or_eq_true]
      dsimp only
      rcases Nat.lt_or_ge (x j.key) j.cap with c | c
      · rw [h i hi j hj h0 c]
        exact .inr rfl
      · exact .inl (decide_eq_true c)
theorem zip_map_self {α β : Type} (f : α → β) : ∀ l : List α, l.zip (l.map f) = l.map fun s => (s, f s)
  | [] => rfl
  | a :: l => by rw [List.map_cons, List.zip_cons_cons, zip_map_self f l, List.map_cons]
theorem check_iff {l : List Slot} (F : Fine l) (a : Nat) (x : Nat → Nat) : rightShares l a (l.map fun s => x s.key) = true ↔ RS l a x := by
  unfold rightShares
  dsimp only
  rw [zip_map_self (fun s : Slot => x s.key)]
  have e1 : (l.map fun s => (s, x s.key)).filter (fun y => y.1.weight != 0) = (heavy l).map fun s => (s, x s.key) := by
    rw [List.filter_map]
    rfl
  have e2 : ((l.map fun s => (s, x s.key)).filter (fun y => y.1.weight == 0)).map (fun y => ((⟨y.1.key, 1, y.1.cap⟩ : Slot), y.2)) = (light l).map fun s => (s, x s.key) := by
    rw [List.filter_map, List.map_map, light_eq, List.map_map]
    rfl
  rw [e1, e2]
  have e3 : ((l.map fun s => x s.key).length == l.length) = true := by rw [List.length_map]; exact beq_self_eq_true _
  rw [e3, Bool.true_and, Bool.and_eq_true, Bool.and_eq_true, Bool.and_eq_true, Bool.and_eq_true, Bool.or_eq_true, pairs_iff, pairs_iff, beq_iff_eq, List.all_eq_true, List.all_eq_true, List.all_eq_true]
  have hsplit : Vbchah.sum (l.map fun s => x s.key) = Vbchah.sum ((heavy l).map fun s => x s.key) + Vbchah.sum ((light l).map fun s => x s.key) := by rw [filt_split, light_sum]
  have hr := room_parts l
  constructor
  · rintro ⟨hs, hc, hh, hl, hz⟩
    have capL : ∀ s ∈ l, x s.key ≤ s.cap := fun s hs => of_decide_eq_true (hc (s, x s.key) (List.mem_map.mpr ⟨s, hs, rfl⟩))
    have capH : ∀ s ∈ heavy l, x s.key ≤ s.cap := fun s hs => capL s (mem_heavy.mp hs).1
    have capT : ∀ s ∈ light l, x s.key ≤ s.cap := fun t ht => by
      obtain ⟨s, hs, _, rfl⟩ := mem_light.mp ht
      exact capL s hs
    have leH : Vbchah.sum ((heavy l).map fun s => x s.key) ≤ room (heavy l) := sum_map_le capH
    rcases hz with hz | hz
    · have z : Vbchah.sum ((light l).map fun s => x s.key) = 0 := by
        have : ∀ s ∈ light l, x s.key = (fun _ : Slot => 0) s := fun s hs => eq_of_beq (hz (s, x s.key) (List.mem_map.mpr ⟨s, hs, rfl⟩))
        rw [sum_map_congr this]
        exact (right_zero (light l)).sum
      exact ⟨⟨capH, by omega, hh⟩, ⟨capT, by omega, hl⟩⟩
    · have z : Vbchah.sum ((heavy l).map fun s => x s.key) = room (heavy l) := sum_map_congr fun s hs => eq_of_beq (hz (s, x s.key) (List.mem_map.mpr ⟨s, hs, rfl⟩))
      exact ⟨⟨capH, by omega, hh⟩, ⟨capT, by omega, hl⟩⟩
  · intro R
    refine ⟨R.sum, fun p hp => ?_, R.hv.ord, R.lt.ord, ?_⟩
    · obtain ⟨s, hs, rfl⟩ := List.mem_map.mp hp
      exact decide_eq_true (R.cap hs)
    · rcases Nat.lt_or_ge a (room (heavy l)) with q | q
      · refine .inl fun p hp => ?_
        obtain ⟨s, hs, rfl⟩ := List.mem_map.mp hp
        have h1 := R.lt.sum
        have h2 := le_sum (f := fun s : Slot => x s.key) hs
        show (x s.key == 0) = true
        rw [beq_iff_eq]
        omega
      · refine .inr fun p hp => ?_
        obtain ⟨s, hs, rfl⟩ := List.mem_map.mp hp
        have h1 := R.hv.sum
        show (x s.key == s.cap) = true
        rw [beq_iff_eq]
        refine sum_map_eq_all (f := fun s : Slot => x s.key) (g := fun s => s.cap) R.hv.cap ?_ s hs
        show room (heavy l) ≤ _
        rw [h1]
        omega
theorem list_byKey : ∀ {l : List Slot} {g : List Nat}, Rising l → g.length = l.length → ∃ x : Nat → Nat, g = l.map fun s => x s.key
  | [], [], _, _ => ⟨fun _ => 0, rfl⟩
  | s :: l, v :: g, hr, h => by
    obtain ⟨x, hx⟩ := list_byKey (List.pairwise_cons.mp hr).2 (show g.length = l.length by simpa using h)
    refine ⟨fun k => if k = s.key then v else x k, ?_⟩
    rw [List.map_cons, hx]
    dsimp only
    rw [if_pos rfl]
    congr 1
    refine List.map_congr_left fun t ht => ?_
    rw [if_neg (Nat.ne_of_gt ((List.pairwise_cons.mp hr).1 t ht))]
theorem check_eq {l : List Slot} (F : Fine l) (a : Nat) (g : List Nat) : rightShares l a g = true ↔ a ≤ room l ∧ g = shares l a := by
  constructor
  · intro h
    have hlen : g.length = l.length := by
      unfold rightShares at h
      dsimp only at h
      rw [Bool.and_eq_true] at h
      exact eq_of_beq h.1
    obtain ⟨x, rfl⟩ := list_byKey F.rising hlen
    have R := (check_iff F a x).mp h
    exact ⟨R.le, List.map_congr_left fun s hs => (R.share F hs).symm⟩
  · rintro ⟨ha, rfl⟩
    have R := rs_ex F ha
    have e : shares l a = l.map fun s => byKey l (shareOf l a) s.key := List.map_congr_left fun s hs => (byKey_at F.rising s hs).symm
    rw [e]
    exact (check_iff F a _).mpr R
end Lb
end
section
set_option linter.all false
namespace Lb
open Vbchah (Member State Slot Call KEY MONEY WEIGHT LOSS MEMBERS LAYERS memberAt put others slots step room bears before whole partOf shareOf closed paid opened borneBy slotOf)
structure MemOk (m : Member) : Prop where
  k1 : 1 ≤ m.key
  k2 : m.key ≤ KEY
  margin : m.margin ≤ MONEY
  fund : m.fund ≤ MONEY
  gain : m.gain ≤ MONEY
  weight : m.weight ≤ WEIGHT
abbrev RisingM (l : List Member) : Prop := l.Pairwise fun a b => a.key < b.key
structure Wf (s : State) : Prop where
  rising : RisingM s.members
  mem : ∀ m ∈ s.members, MemOk m
  len : s.members.length ≤ 12
  first : s.first ≤ MONEY
  last : s.last ≤ MONEY
  multiple : s.multiple ≤ 10
  ev : ∀ e, s.event = some e → (∃ m ∈ s.members, m.key = e.1) ∧ e.2 ≤ LOSS
theorem RisingM.nodup {l : List Member} (h : RisingM l) : (l.map fun m => m.key).Nodup := by
  rw [List.Nodup, List.pairwise_map]
  exact h.imp fun q => Nat.ne_of_lt q
theorem keyM_inj : ∀ {l : List Member}, RisingM l → ∀ {i j : Member}, i ∈ l → j ∈ l → i.key = j.key → i = j
  | a :: l, h, i, j, hi, hj, e => by
    have h := List.pairwise_cons.mp h
    rcases List.mem_cons.mp hi with ei | mi <;> rcases List.mem_cons.mp hj with ej | mj
    · exact ei.trans ej.symm
    · have := h.1 j mj
      rw [← ei] at this
      omega
    · have := h.1 i mi
      rw [← ej] at this
      omega
    · exact keyM_inj h.2 mi mj e
theorem memberAt_some {s : State} {k : Nat} {m : Member} (h : memberAt s k = some m) : m ∈ s.members ∧ m.key = k :=
  ⟨List.mem_of_find?_eq_some h, eq_of_beq (List.find?_some (p := fun m : Member => m.key == k) h)⟩
theorem memberAt_of {s : State} (hr : RisingM s.members) {m : Member} (h : m ∈ s.members) : memberAt s m.key = some m := by
  cases e : memberAt s m.key with
  | none =>
    have := List.find?_eq_none.mp e m h
    exact absurd (beq_self_eq_true m.key) this
  | some m' =>
    obtain ⟨h1, h2⟩ := memberAt_some e
    rw [keyM_inj hr h1 h h2]
theorem memberAt_none {s : State} {k : Nat} : memberAt s k = none ↔ ∀ m ∈ s.members, m.key ≠ k := by
  unfold memberAt
  rw [List.find?_eq_none]
  constructor
  · intro h m hm e
    exact h m hm (by rw [e]; exact beq_self_eq_true k)
  · intro h m hm e
    exact h m hm (eq_of_beq e)
theorem mem_put {m : Member} : ∀ {l : List Member} {x : Member}, x ∈ put m l ↔ x = m ∨ x ∈ l
  | [], x => by unfold put; simp
  | a :: l, x => by
    unfold put
    split
    · simp
    · rw [List.mem_cons, mem_put, List.mem_cons]
      constructor
      · rintro (h | h | h)
        · exact .inr (.inl h)
        · exact .inl h
        · exact .inr (.inr h)
      · rintro (h | h | h)
        · exact .inr (.inl h)
        · exact .inl h
        · exact .inr (.inr h)
theorem put_len {m : Member} : ∀ {l : List Member}, (put m l).length = l.length + 1
  | [] => rfl
  | a :: l => by
    unfold put
    split
    · rfl
    · rw [List.length_cons, put_len, List.length_cons]
theorem put_rising {m : Member} : ∀ {l : List Member}, RisingM l → (∀ x ∈ l, x.key ≠ m.key) → RisingM (put m l)
  | [], _, _ => List.pairwise_singleton _ _
  | a :: l, h, hn => by
    have hc := List.pairwise_cons.mp h
    unfold put
    split
    · rename_i hlt
      refine List.pairwise_cons.mpr ⟨fun x hx => ?_, h⟩
      rcases List.mem_cons.mp hx with rfl | hx
      · exact hlt
      · have := hc.1 x hx
        omega
    · rename_i hlt
      refine List.pairwise_cons.mpr ⟨fun x hx => ?_, put_rising hc.2 fun x hx => hn x (List.mem_cons_of_mem _ hx)⟩
      rcases mem_put.mp hx with rfl | hx
      · have := hn a (List.mem_cons_self ..)
        omega
      · exact hc.1 x hx
theorem put_perm {m : Member} : ∀ {l : List Member}, (put m l).Perm (m :: l)
  | [] => List.Perm.refl _
  | a :: l => by
    unfold put
    split
    · exact List.Perm.refl _
    · exact (List.Perm.cons a put_perm).trans (List.Perm.swap m a l)
theorem map_rising {f : Member → Member} (hf : ∀ m, (f m).key = m.key) {l : List Member} (h : RisingM l) : RisingM (l.map f) := by
  rw [RisingM, List.pairwise_map]
  exact h.imp fun q => by rw [hf, hf]; exact q
theorem changed_key (m : Member) (w : Int) (n : Nat) : (Vbchah.changed m w n).key = m.key := by
  unfold Vbchah.changed
  split
  · rfl
  · split
    · rfl
    · split <;> rfl
theorem within_iff {z lo : Int} {hi : Nat} : Vbchah.within z lo hi = true ↔ lo ≤ z ∧ z ≤ (hi : Int) := by
  unfold Vbchah.within
  rw [Bool.and_eq_true, decide_eq_true_iff, decide_eq_true_iff]
theorem keyed_iff {z : Int} : Vbchah.keyed z = true ↔ 1 ≤ z ∧ z ≤ (KEY : Int) := within_iff
theorem money_iff {z : Int} : Vbchah.money z = true ↔ 0 ≤ z ∧ z ≤ (MONEY : Int) := within_iff
theorem layered_iff {z : Int} : Vbchah.layered z = true ↔ 1 ≤ z ∧ z ≤ (LAYERS : Int) := within_iff
theorem changed_ok {m : Member} {w a : Int} (h : MemOk m) (h1 : Vbchah.within w 1 4 = true) (h2 : Vbchah.within a 0 (if w = 4 then WEIGHT else MONEY) = true) : MemOk (Vbchah.changed m w a.toNat) := by
  have h1 := within_iff.mp h1
  have h2 := within_iff.mp h2
  unfold Vbchah.changed
  by_cases e1 : w = 1
  · rw [if_pos e1]
    rw [if_neg (by omega)] at h2
    exact ⟨h.k1, h.k2, by show a.toNat ≤ MONEY; omega, h.fund, h.gain, h.weight⟩
  · rw [if_neg e1]
    by_cases e2 : w = 2
    · rw [if_pos e2]
      rw [if_neg (by omega)] at h2
      exact ⟨h.k1, h.k2, h.margin, by show a.toNat ≤ MONEY; omega, h.gain, h.weight⟩
    · rw [if_neg e2]
      by_cases e3 : w = 3
      · rw [if_pos e3]
        rw [if_neg (by omega)] at h2
        exact ⟨h.k1, h.k2, h.margin, h.fund, by show a.toNat ≤ MONEY; omega, h.weight⟩
      · rw [if_neg e3]
        rw [if_pos (by have : ((4 : Nat) : Int) = 4 := rfl; omega)] at h2
        exact ⟨h.k1, h.k2, h.margin, h.fund, h.gain, by show a.toNat ≤ WEIGHT; omega⟩
theorem start_wf : Wf Vbchah.start := ⟨List.Pairwise.nil, fun _ h => absurd h List.not_mem_nil, Nat.zero_le _, Nat.zero_le _, Nat.zero_le _, Nat.zero_le _, fun _ h => nomatch h⟩
theorem closed_wf {s : State} (h : Wf s) (d n : Nat) : Wf (closed s d n) := by
  have sub : ∀ m ∈ others s d, m ∈ s.members := fun m hm => (List.mem_filter.mp hm).1
  refine ⟨map_rising (f := paid s d n) (fun _ => rfl) (h.rising.filter _), fun m hm => ?_, ?_, ?_, ?_, h.multiple, fun _ e => nomatch e⟩
  · obtain ⟨m', hm', rfl⟩ := List.mem_map.mp hm
    have o := h.mem m' (sub m' hm')
    exact ⟨o.k1, o.k2, o.margin, Nat.le_trans (Nat.sub_le _ _) o.fund, Nat.le_trans (Nat.sub_le _ _) o.gain, o.weight⟩
  · show ((others s d).map _).length ≤ 12
    rw [List.length_map]
    exact Nat.le_trans (List.length_filter_le _ _) h.len
  · exact Nat.le_trans (Nat.sub_le _ _) h.first
  · exact Nat.le_trans (Nat.sub_le _ _) h.last
theorem opened_wf {s : State} (h : Wf s) {f : Nat → Nat → State × List Int} (hf : ∀ d n, s.event = some (d, n) → Wf (f d n).1) : Wf (opened s f).1 := by
  unfold opened
  cases e : s.event with
  | none => exact h
  | some q => exact hf q.1 q.2 e
theorem borneBy_wf {s : State} (h : Wf s) {k key : Int} {f : Nat → Nat → Slot → State × List Int} (hf : ∀ d n i, (f d n i).1 = s) : Wf (borneBy s k key f).1 := by
  unfold borneBy
  split
  · exact h
  · refine opened_wf h fun d n _ => ?_
    split
    · exact h
    · rw [hf]; exact h
theorem step_wf {s : State} (h : Wf s) (c : Call) : Wf (step s c).1 := by
  cases c with
  | member key margin fund gain weight =>
    unfold step
    dsimp only
    by_cases c1 : (Vbchah.keyed key && (Vbchah.money margin && (Vbchah.money fund && (Vbchah.money gain && Vbchah.within weight 0 WEIGHT)))) = false
    · rw [if_pos c1]; exact h
    · rw [if_neg c1]
      by_cases c2 : s.event.isSome = true
      · rw [if_pos c2]; exact h
      · rw [if_neg c2]
        by_cases c3 : (memberAt s key.toNat).isSome = true
        · rw [if_pos c3]; exact h
        · rw [if_neg c3]
          by_cases c4 : MEMBERS ≤ s.members.length
          · rw [if_pos c4]; exact h
          · rw [if_neg c4]
            rw [Bool.not_eq_false, Bool.and_eq_true, Bool.and_eq_true, Bool.and_eq_true, Bool.and_eq_true, keyed_iff, money_iff, money_iff, money_iff, within_iff] at c1
            obtain ⟨⟨a1, a2⟩, ⟨b1, b2⟩, ⟨d1, d2⟩, ⟨e1, e2⟩, f1, f2⟩ := c1
            have hno : ∀ x ∈ s.members, x.key ≠ key.toNat := by
              have : memberAt s key.toNat = none := by
                cases q : memberAt s key.toNat with
                | none => rfl
                | some _ => rw [q] at c3; exact absurd rfl c3
              exact memberAt_none.mp this
            refine ⟨put_rising h.rising hno, fun m hm => ?_, ?_, h.first, h.last, h.multiple, fun e he => ?_⟩
            · rcases mem_put.mp hm with rfl | hm
              · exact ⟨by show 1 ≤ key.toNat; omega, by show key.toNat ≤ KEY; omega, by show margin.toNat ≤ MONEY; omega, by show fund.toNat ≤ MONEY; omega, by show gain.toNat ≤ MONEY; omega, by show weight.toNat ≤ WEIGHT; omega⟩
              · exact h.mem m hm
            · show (put _ s.members).length ≤ 12
              rw [put_len]
              unfold MEMBERS at c4
              omega
            · have he : s.event = some e := he
              rw [he] at c2
              exact absurd rfl c2
  | house first last multiple =>
    unfold step
    dsimp only
    by_cases c1 : (Vbchah.money first && (Vbchah.money last && Vbchah.within multiple 0 10)) = false
    · rw [if_pos c1]; exact h
    · rw [if_neg c1]
      by_cases c2 : s.event.isSome = true
      · rw [if_pos c2]; exact h
      · rw [if_neg c2]
        rw [Bool.not_eq_false, Bool.and_eq_true, Bool.and_eq_true, money_iff, money_iff, within_iff] at c1
        obtain ⟨⟨a1, a2⟩, ⟨b1, b2⟩, d1, d2⟩ := c1
        exact ⟨h.rising, h.mem, h.len, by show first.toNat ≤ MONEY; omega, by show last.toNat ≤ MONEY; omega, by show multiple.toNat ≤ 10; omega, h.ev⟩
  | change key what amount =>
    unfold step
    dsimp only
    by_cases c1 : (Vbchah.keyed key && (Vbchah.within what 1 4 && Vbchah.within amount 0 (if what = 4 then WEIGHT else MONEY))) = false
    · rw [if_pos c1]; exact h
    · rw [if_neg c1]
      by_cases c2 : s.event.isSome = true
      · rw [if_pos c2]; exact h
      · rw [if_neg c2]
        by_cases c3 : (memberAt s key.toNat).isNone = true
        · rw [if_pos c3]; exact h
        · rw [if_neg c3]
          rw [Bool.not_eq_false, Bool.and_eq_true, Bool.and_eq_true] at c1
          refine ⟨map_rising (fun m => ?_) h.rising, fun m hm => ?_, ?_, h.first, h.last, h.multiple, fun e he => ?_⟩
          · split
            · exact changed_key ..
            · rfl
          · obtain ⟨m', hm', rfl⟩ := List.mem_map.mp hm
            split
            · exact changed_ok (h.mem m' hm') c1.2.1 c1.2.2
            · exact h.mem m' hm'
          · show (s.members.map _).length ≤ 12
            rw [List.length_map]; exact h.len
          · have he : s.event = some e := he
            rw [he] at c2
            exact absurd rfl c2
  | open_ key =>
    unfold step
    dsimp only
    by_cases c1 : Vbchah.keyed key = false
    · rw [if_pos c1]; exact h
    · rw [if_neg c1]
      by_cases c2 : s.event.isSome = true
      · rw [if_pos c2]; exact h
      · rw [if_neg c2]
        cases c3 : memberAt s key.toNat with
        | none => rw [if_pos (show (none : Option Member).isNone = true from rfl)]; exact h
        | some m =>
          rw [if_neg (by simp)]
          refine ⟨h.rising, h.mem, h.len, h.first, h.last, h.multiple, fun e he => ?_⟩
          have he : some (key.toNat, 0) = some e := he
          injection he with he
          subst he
          obtain ⟨a, b⟩ := memberAt_some c3
          exact ⟨⟨m, a, b⟩, Nat.zero_le _⟩
  | lose n =>
    unfold step
    dsimp only
    split
    · exact h
    · refine opened_wf h fun d m e => ?_
      split
      · exact h
      · rename_i hl
        refine ⟨h.rising, h.mem, h.len, h.first, h.last, h.multiple, fun q hq => ?_⟩
        have hq : some (d, m + n.toNat) = some q := hq
        injection hq with hq
        subst hq
        exact ⟨(h.ev _ e).1, by show m + n.toNat ≤ LOSS; omega⟩
  | recover n =>
    unfold step
    dsimp only
    split
    · exact h
    · refine opened_wf h fun d m e => ?_
      split
      · exact h
      · refine ⟨h.rising, h.mem, h.len, h.first, h.last, h.multiple, fun q hq => ?_⟩
        have hq : some (d, m - n.toNat) = some q := hq
        injection hq with hq
        subst hq
        have := (h.ev _ e).2
        exact ⟨(h.ev _ e).1, by show m - n.toNat ≤ LOSS; exact Nat.le_trans (Nat.sub_le _ _) this⟩
  | close => exact opened_wf h fun d n _ => closed_wf h d n
  | layer k =>
    unfold step
    dsimp only
    split
    · exact h
    · exact opened_wf h fun _ _ _ => h
  | share k key => exact borneBy_wf h fun _ _ _ => rfl
  | shares k =>
    unfold step
    dsimp only
    split
    · exact h
    · exact opened_wf h fun _ _ _ => h
  | person key =>
    unfold step
    dsimp only
    split
    · exact h
    · refine opened_wf h fun _ _ _ => ?_
      split <;> exact h
  | who u =>
    unfold step
    dsimp only
    split
    · exact h
    · exact opened_wf h fun _ _ _ => h
  | at_ n k key =>
    unfold step
    dsimp only
    split
    · exact h
    · exact borneBy_wf h fun _ _ _ => rfl
  | until_ k key m =>
    unfold step
    dsimp only
    split
    · exact h
    · refine borneBy_wf h fun _ _ _ => ?_
      split <;> rfl
  | next => exact opened_wf h fun _ _ _ => h
  | between a b k key =>
    unfold step
    dsimp only
    split
    · exact h
    · exact borneBy_wf h fun _ _ _ => rfl
  | check k n list =>
    unfold step
    dsimp only
    split
    · exact h
    · exact opened_wf h fun _ _ _ => h
  | heaps => exact h
  | members => exact h
  | fair k key => exact borneBy_wf h fun _ _ _ => rfl
theorem slots_fine {s : State} (h : Wf s) (d k : Nat) : Fine (slots s d k) := by
  have one : ∀ (key c : Nat), c ≤ MONEY → Fine [⟨key, 1, c⟩] := fun key c hc =>
    ⟨List.pairwise_singleton _ _, fun t ht => by
      rw [List.mem_singleton.mp ht]
      show c < 2 ^ 64
      unfold MONEY at hc
      omega⟩
  have oth : ∀ f : Member → Slot, (∀ m, (f m).key = m.key) → (∀ m ∈ s.members, (f m).cap < 2 ^ 64) → Fine ((others s d).map f) := fun f hf hc =>
    ⟨by
      rw [Rising, List.pairwise_map]
      exact (h.rising.filter _).imp fun q => by rw [hf, hf]; exact q, fun t ht => by
      obtain ⟨m, hm, rfl⟩ := List.mem_map.mp ht
      exact hc m (List.mem_filter.mp hm).1⟩
  unfold slots
  split
  · split
    · rename_i m hm
      exact one _ _ (h.mem m (memberAt_some hm).1).margin
    · exact ⟨List.Pairwise.nil, fun _ q => absurd q List.not_mem_nil⟩
  · split
    · rename_i m hm
      exact one _ _ (h.mem m (memberAt_some hm).1).fund
    · exact ⟨List.Pairwise.nil, fun _ q => absurd q List.not_mem_nil⟩
  · exact one _ _ h.first
  · refine oth _ (fun _ => rfl) fun m hm => ?_
    have := (h.mem m hm).fund
    unfold MONEY at this
    show m.fund < 2 ^ 64
    omega
  · refine oth _ (fun _ => rfl) fun m hm => ?_
    have := (h.mem m hm).fund
    have h10 := h.multiple
    unfold MONEY at this
    show s.multiple * m.fund < 2 ^ 64
    have : s.multiple * m.fund ≤ 10 * 1000000000000 := Nat.mul_le_mul h10 this
    omega
  · refine oth _ (fun _ => rfl) fun m hm => ?_
    have := (h.mem m hm).gain
    unfold MONEY at this
    show m.gain < 2 ^ 64
    omega
  · exact one _ _ h.last
  · exact ⟨List.Pairwise.nil, fun _ q => absurd q List.not_mem_nil⟩
theorem before_one (s : State) (d : Nat) : before s d 1 = 0 := rfl
theorem before_succ (s : State) (d : Nat) {k : Nat} (hk : 1 ≤ k) : before s d (k + 1) = before s d k + room (slots s d k) := by
  unfold before
  obtain ⟨j, rfl⟩ : ∃ j, k = j + 1 := ⟨k - 1, by omega⟩
  rw [Nat.add_sub_cancel, Nat.add_sub_cancel, List.range_succ, List.map_append, sum_append, List.map_singleton]
  rfl
theorem bears_le (s : State) (d n k : Nat) : bears s d n k ≤ room (slots s d k) := Nat.min_le_left _ _
end Lb
end
section
set_option linter.all false
namespace Lb
open PyFlat (call calls row rows told played)
open PyVbchah (shape)
theorem whole_id (c : List (List Int)) : PyVbchah.whole c = c := by
  unfold PyVbchah.whole
  split <;> rfl
inductive Read : List Int → List (List Int) → List Int → Prop
  | member (k m f g w : Int) (t : List Int) : Read (0 :: k :: m :: f :: g :: w :: t) [[0, k, m, f, g, w]] t
  | house (a b c : Int) (t : List Int) : Read (1 :: a :: b :: c :: t) [[1, a, b, c]] t
  | change (k w a : Int) (t : List Int) : Read (2 :: k :: w :: a :: t) [[2, k, w, a]] t
  | opens (k : Int) (t : List Int) : Read (3 :: k :: t) [[3, k]] t
  | lose (n : Int) (t : List Int) : Read (4 :: n :: t) [[4, n]] t
  | recover (n : Int) (t : List Int) : Read (5 :: n :: t) [[5, n]] t
  | close (t : List Int) : Read (6 :: t) [[6]] t
  | layer (k : Int) (t : List Int) : Read (7 :: k :: t) [[7, k]] t
  | share (k m : Int) (t : List Int) : Read (8 :: k :: m :: t) [[8, k, m]] t
  | shares (k : Int) (t : List Int) : Read (9 :: k :: t) [[9, k]] t
  | person (k : Int) (t : List Int) : Read (10 :: k :: t) [[10, k]] t
  | who (u : Int) (t : List Int) : Read (11 :: u :: t) [[11, u]] t
  | at (n k m : Int) (t : List Int) : Read (12 :: n :: k :: m :: t) [[12, n, k, m]] t
  | until (k m g : Int) (t : List Int) : Read (13 :: k :: m :: g :: t) [[13, k, m, g]] t
  | next (t : List Int) : Read (14 :: t) [[14]] t
  | between (a b k m : Int) (t : List Int) : Read (15 :: a :: b :: k :: m :: t) [[15, a, b, k, m]] t
  | check (k n : Int) (l t : List Int) : Read (16 :: k :: n :: (l.length : Int) :: (l ++ t)) [[16, k, n], l] t
  | heaps (t : List Int) : Read (17 :: t) [[17]] t
  | members (t : List Int) : Read (18 :: t) [[18]] t
  | fair (k m : Int) (t : List Int) : Read (19 :: k :: m :: t) [[19, k, m]] t
theorem call_plain {p : Int} {n : Nat} {r : List Int} {c : List (List Int)} {t : List Int} (hs : shape p = some (n, 0)) (h : call shape (p :: r) = some (c, t)) : n ≤ r.length ∧ c = [p :: r.take n] ∧ t = r.drop n := by
  unfold call at h
  dsimp only at h
  rw [hs] at h
  dsimp only at h
  by_cases hl : r.length < n
  · rw [if_pos hl] at h
    exact nomatch h
  · rw [if_neg hl] at h
    unfold rows at h
    dsimp only at h
    injection h with h
    injection h with h1 h2
    exact ⟨by omega, h1.symm, h2.symm⟩
theorem call_row {p : Int} {n : Nat} {r : List Int} {c : List (List Int)} {t : List Int} (hs : shape p = some (n, 1)) (h : call shape (p :: r) = some (c, t)) :
    n ≤ r.length ∧ ∃ (l : List Int), r.drop n = (l.length : Int) :: (l ++ t) ∧ c = [p :: r.take n, l] := by
  unfold call at h
  dsimp only at h
  rw [hs] at h
  dsimp only at h
  by_cases hl : r.length < n
  · rw [if_pos hl] at h
    exact nomatch h
  · rw [if_neg hl] at h
    refine ⟨by omega, ?_⟩
    unfold rows at h
    cases hd : r.drop n with
    | nil =>
      rw [hd] at h
      exact nomatch h
    | cons m q =>
      rw [hd] at h
      unfold row at h
      dsimp only at h
      by_cases hm : 0 ≤ m ∧ m.toNat ≤ q.length
      · rw [if_pos hm] at h
        unfold rows at h
        dsimp only at h
        injection h with h
        injection h with h1 h2
        refine ⟨q.take m.toNat, ?_, h1.symm⟩
        have e : ((q.take m.toNat).length : Int) = m := by
          rw [List.length_take]
          omega
        rw [e, ← h2, List.take_append_drop]
      · rw [if_neg hm] at h
        exact nomatch h
theorem take1 {r : List Int} (h : 1 ≤ r.length) : ∃ a t, r = a :: t := by
  match r, h with
  | a :: t, _ => exact ⟨a, t, rfl⟩
theorem take2 {r : List Int} (h : 2 ≤ r.length) : ∃ a b t, r = a :: b :: t := by
  match r, h with
  | a :: b :: t, _ => exact ⟨a, b, t, rfl⟩
theorem take3 {r : List Int} (h : 3 ≤ r.length) : ∃ a b c t, r = a :: b :: c :: t := by
  match r, h with
  | a :: b :: c :: t, _ => exact ⟨a, b, c, t, rfl⟩
theorem take4 {r : List Int} (h : 4 ≤ r.length) : ∃ a b c d t, r = a :: b :: c :: d :: t := by
  match r, h with
  | a :: b :: c :: d :: t, _ => exact ⟨a, b, c, d, t, rfl⟩
theorem take5 {r : List Int} (h : 5 ≤ r.length) : ∃ a b c d e t, r = a :: b :: c :: d :: e :: t := by
  match r, h with
  | a :: b :: c :: d :: e :: t, _ => exact ⟨a, b, c, d, e, t, rfl⟩
theorem shape_none {p : Int} (h : p < 0 ∨ 19 < p) : shape p = none := by
  unfold shape
  repeat rw [if_neg (by omega)]
theorem read_of {l : List Int} {c : List (List Int)} {t : List Int} (h : call shape l = some (c, t)) : Read l c t := by
  match l, h with
  | [], h => exact nomatch h
  | p :: r, h =>
    by_cases hp : p < 0 ∨ 19 < p
    · unfold call at h
      dsimp only at h
      rw [shape_none hp] at h
      exact nomatch h
    · have hc : p = 0 ∨ p = 1 ∨ p = 2 ∨ p = 3 ∨ p = 4 ∨ p = 5 ∨ p = 6 ∨ p = 7 ∨ p = 8 ∨ p = 9 ∨ p = 10 ∨ p = 11 ∨ p = 12 ∨ p = 13 ∨ p = 14 ∨ p = 15 ∨ p = 16 ∨ p = 17 ∨ p = 18 ∨ p = 19 := by omega
      rcases hc with rfl | rfl | rfl | rfl | rfl | rfl | rfl | rfl | rfl | rfl | rfl | rfl | rfl | rfl | rfl | rfl | rfl | rfl | rfl | rfl
      · obtain ⟨h1, rfl, rfl⟩ := call_plain (n := 5) rfl h
        obtain ⟨a, b, c, d, e, t, rfl⟩ := take5 h1
        exact .member ..
      · obtain ⟨h1, rfl, rfl⟩ := call_plain (n := 3) rfl h
        obtain ⟨a, b, c, t, rfl⟩ := take3 h1
        exact .house ..
      · obtain ⟨h1, rfl, rfl⟩ := call_plain (n := 3) rfl h
        obtain ⟨a, b, c, t, rfl⟩ := take3 h1
        exact .change ..
      · obtain ⟨h1, rfl, rfl⟩ := call_plain (n := 1) rfl h
        obtain ⟨a, t, rfl⟩ := take1 h1
        exact .opens ..
      · obtain ⟨h1, rfl, rfl⟩ := call_plain (n := 1) rfl h
        obtain ⟨a, t, rfl⟩ := take1 h1
        exact .lose ..
      · obtain ⟨h1, rfl, rfl⟩ := call_plain (n := 1) rfl h
        obtain ⟨a, t, rfl⟩ := take1 h1
        exact .recover ..
      · obtain ⟨h1, rfl, rfl⟩ := call_plain (n := 0) rfl h
        exact .close ..
      · obtain ⟨h1, rfl, rfl⟩ := call_plain (n := 1) rfl h
        obtain ⟨a, t, rfl⟩ := take1 h1
        exact .layer ..
      · obtain ⟨h1, rfl, rfl⟩ := call_plain (n := 2) rfl h
        obtain ⟨a, b, t, rfl⟩ := take2 h1
        exact .share ..
      · obtain ⟨h1, rfl, rfl⟩ := call_plain (n := 1) rfl h
        obtain ⟨a, t, rfl⟩ := take1 h1
        exact .shares ..
      · obtain ⟨h1, rfl, rfl⟩ := call_plain (n := 1) rfl h
        obtain ⟨a, t, rfl⟩ := take1 h1
        exact .person ..
      · obtain ⟨h1, rfl, rfl⟩ := call_plain (n := 1) rfl h
        obtain ⟨a, t, rfl⟩ := take1 h1
        exact .who ..
      · obtain ⟨h1, rfl, rfl⟩ := call_plain (n := 3) rfl h
        obtain ⟨a, b, c, t, rfl⟩ := take3 h1
        exact .at ..
      · obtain ⟨h1, rfl, rfl⟩ := call_plain (n := 3) rfl h
        obtain ⟨a, b, c, t, rfl⟩ := take3 h1
        exact .until ..
      · obtain ⟨h1, rfl, rfl⟩ := call_plain (n := 0) rfl h
        exact .next ..
      · obtain ⟨h1, rfl, rfl⟩ := call_plain (n := 4) rfl h
        obtain ⟨a, b, c, d, t, rfl⟩ := take4 h1
        exact .between ..
      · obtain ⟨h1, l, e, rfl⟩ := call_row (n := 2) rfl h
        obtain ⟨a, b, q, rfl⟩ := take2 h1
        have e : q = (l.length : Int) :: (l ++ t) := e
        subst e
        exact .check ..
      · obtain ⟨h1, rfl, rfl⟩ := call_plain (n := 0) rfl h
        exact .heaps ..
      · obtain ⟨h1, rfl, rfl⟩ := call_plain (n := 0) rfl h
        exact .members ..
      · obtain ⟨h1, rfl, rfl⟩ := call_plain (n := 2) rfl h
        obtain ⟨a, b, t, rfl⟩ := take2 h1
        exact .fair ..
inductive Line : List Int → List (List (List Int)) → Prop
  | nil : Line [] []
  | cons {l : List Int} {c : List (List Int)} {t : List Int} {cs : List (List (List Int))} : Read l c t → VbchahNeutral.asked1 c = true → Line t cs → Line l (c :: cs)
theorem line_of : ∀ {f : Nat} {l : List Int} {cs : List (List (List Int))}, calls shape f l = some cs → (∀ c ∈ cs, VbchahNeutral.asked1 c = true) → Line l cs
  | f, [], cs, h, _ => by
    unfold calls at h
    injection h with h
    subst h
    exact .nil
  | 0, _ :: _, cs, h, _ => by
    unfold calls at h
    exact nomatch h
  | f + 1, p :: r, cs, h, hall => by
    unfold calls at h
    cases hc : call shape (p :: r) with
    | none =>
      rw [hc] at h
      exact nomatch h
    | some ct =>
      obtain ⟨c, t⟩ := ct
      rw [hc] at h
      dsimp only at h
      cases hr : calls shape f t with
      | none =>
        rw [hr] at h
        exact nomatch h
      | some cs' =>
        rw [hr] at h
        injection h with h
        subst h
        exact .cons (read_of hc) (hall c (List.mem_cons_self ..)) (line_of hr fun c hc => hall c (List.mem_cons_of_mem _ hc))
theorem asked_line {l : List Int} (h : PyVbchah.answers_asked l = true) : ∃ cs, Line l cs ∧ cs.length ≤ 400 ∧ PyVbchah.answers l = told (played VbchahNeutral.step VbchahNeutral.start cs) := by
  unfold PyVbchah.answers_asked at h
  unfold PyVbchah.answers
  unfold PyVbchah.calls at h ⊢
  cases hc : calls shape l.length l with
  | none =>
    rw [hc] at h
    exact nomatch h
  | some cs =>
    rw [hc] at h
    dsimp only at h ⊢
    have e : cs.map PyVbchah.whole = cs := by
      have : PyVbchah.whole = id := funext whole_id
      rw [this, List.map_id]
    rw [e] at h ⊢
    rw [Bool.and_eq_true] at h
    obtain ⟨h1, h2⟩ := h
    unfold VbchahNeutral.asked at h2
    rw [Bool.and_eq_true, Bool.and_eq_true, List.all_eq_true] at h2
    exact ⟨cs, line_of hc h2.1, of_decide_eq_true h1, rfl⟩
theorem told_cons (a : List Int) (r : List (List Int)) : told (a :: r) = ((a.length : Int) :: a) ++ told r := by
  unfold told
  rw [List.flatMap_cons]
theorem told_played {c : List (List Int)} {cs : List (List (List Int))} {s : Vbchah.State} : told (played VbchahNeutral.step s (c :: cs)) = (((VbchahNeutral.step s c).2.length : Int) :: (VbchahNeutral.step s c).2) ++ told (played VbchahNeutral.step (VbchahNeutral.step s c).1 cs) := told_cons _ _
theorem told_nil {s : Vbchah.State} : told (played VbchahNeutral.step s []) = [] := rfl
end Lb
end
section
set_option linter.all false
set_option Elab.async false
set_option linter.all false
set_option maxRecDepth 100000
namespace L2
open PySem PySem.Spec PyProof.Rows
abbrev Key := Sum Int Str
def keyIs : Key → Value → Bool
  | .inl k, v => Value.isInt k v
  | .inr x, v => Value.isStrOf x v
def keyH (w : World) : Key → Int
  | .inl k => hashInt k
  | .inr x => hashStr w x
theorem keyIs_shape : ∀ {k : Key} {v : Value}, keyIs k v = true → (∃ i t, k = Sum.inl i ∧ v = Value.int i t) ∨ (∃ x t, k = Sum.inr x ∧ v = Value.str x t)
  | .inl i, v, h => by
    obtain ⟨t, e⟩ := Value.isInt_shape (k := i) (v := v) h
    exact .inl ⟨i, t, rfl, e⟩
  | .inr x, v, h => by
    obtain ⟨t, e⟩ := Value.isStrOf_shape (x := x) (v := v) h
    exact .inr ⟨x, t, rfl, e⟩
theorem keyIs_int (i : Int) (t : Tok) : keyIs (.inl i) (.int i t) = true := by simp [keyIs, Value.isInt]
theorem keyIs_str (x : Str) (t : Tok) : keyIs (.inr x) (.str x t) = true := by simp [keyIs, Value.isStrOf]
theorem key_ll (a b : Int) : decide ((Sum.inl a : Key) = Sum.inl b) = (a == b) := by
  by_cases e : a = b
  · subst e; simp
  · have h : ¬ (Sum.inl a : Key) = Sum.inl b := fun q => e (Sum.inl.inj q)
    rw [decide_eq_false h]
    exact (beq_eq_false_iff_ne.mpr e).symm
theorem key_rr (a b : Str) : decide ((Sum.inr a : Key) = Sum.inr b) = decide (a = b) := by
  by_cases e : a = b
  · subst e; simp
  · have h : ¬ (Sum.inr a : Key) = Sum.inr b := fun q => e (Sum.inr.inj q)
    rw [decide_eq_false h, decide_eq_false e]
theorem key_lr (a : Int) (b : Str) : decide ((Sum.inl a : Key) = Sum.inr b) = false := decide_eq_false (fun q => nomatch q)
theorem key_rl (a : Str) (b : Int) : decide ((Sum.inr a : Key) = Sum.inl b) = false := decide_eq_false (fun q => nomatch q)
def mixKind (prog : Program) (w : World) : PySem.KeyKind prog w Key where
  is := keyIs
  hash := keyH w
  inj := fun v a b ha hb => by
    rcases keyIs_shape ha with ⟨i, t, rfl, rfl⟩ | ⟨x, t, rfl, rfl⟩
    · rcases keyIs_shape hb with ⟨j, u, rfl, e⟩ | ⟨y, u, rfl, e⟩
      · injection e with e1 _; rw [e1]
      · exact nomatch e
    · rcases keyIs_shape hb with ⟨j, u, rfl, e⟩ | ⟨y, u, rfl, e⟩
      · exact nomatch e
      · injection e with e1 _; rw [e1]
  byValue := fun k v h => by
    rcases keyIs_shape h with ⟨i, t, rfl, rfl⟩ | ⟨x, t, rfl, rfl⟩ <;> rfl
  pyHash := fun hv h => by
    rcases keyIs_shape hv with ⟨i, t, rfl, rfl⟩ | ⟨x, t, rfl, rfl⟩
    · exact wpAny_pyHash_int h
    · exact wpAny_pyHash_str h
  eqBool := fun hu hv h => by
    rcases keyIs_shape hu with ⟨i, t, rfl, rfl⟩ | ⟨x, t, rfl, rfl⟩
    · rcases keyIs_shape hv with ⟨j, u, rfl, rfl⟩ | ⟨y, u, rfl, rfl⟩
      · rw [key_ll] at h; exact wpAny_eqBool_int h
      · rw [key_lr] at h; exact SeqAt.EqAt.int_str i t y u _ _ _ _ h
    · rcases keyIs_shape hv with ⟨j, u, rfl, rfl⟩ | ⟨y, u, rfl, rfl⟩
      · rw [key_rl] at h; exact SeqAt.EqAt.str_int x t j u _ _ _ _ h
      · rw [key_rr] at h; exact wpAny_eqBool_str h
  «strs» := fun k x t v h => by
    rcases keyIs_shape h with ⟨i, u, rfl, e⟩ | ⟨y, u, rfl, e⟩
    · exact nomatch e
    · injection e with e1 _
      subst e1
      cases v <;> rfl
theorem mixKind_int (prog : Program) (w : World) (i : Int) (t : Tok) : (mixKind prog w).is (.inl i) (.int i t) = true := keyIs_int i t
theorem mixKind_str (prog : Program) (w : World) (x : Str) (t : Tok) : (mixKind prog w).is (.inr x) (.str x t) = true := keyIs_str x t
end L2
namespace L2
open PySem PySem.Spec PyProof.Rows
inductive V where
  | non | bl (b : Bool) | int (i : Int) | str (x : Str) | byt (b : Array UInt8) | flt (b : UInt64) | ref (a : Addr) | ty (n : String)
  deriving DecidableEq
def RelV : V → Value → Prop
  | .non, u => u = Value.none
  | .bl b, u => u = Value.bool b
  | .int i, u => ∃ t, u = Value.int i t
  | .str x, u => ∃ t, u = Value.str x t
  | .byt b, u => ∃ t, u = Value.bytes b t
  | .flt b, u => ∃ t, u = Value.float b t
  | .ref a, u => u = Value.ref a
  | .ty n, u => u = Value.type n
abbrev Vals : List V → List Value → Prop := Paired RelV
theorem Vals.length {xs : List V} {us : List Value} (r : Vals xs us) : xs.length = us.length := Paired.length r
theorem Vals.get : ∀ {xs : List V} {us : List Value} {i : Nat} {x : V}, Vals xs us → xs[i]? = some x → ∃ u, us[i]? = some u ∧ RelV x u
  | _, _, _, _, .nil, e => by simp at e
  | _, _, 0, _, .cons r _, e => by simp at e; subst e; exact ⟨_, rfl, r⟩
  | _, _, i + 1, x, .cons _ t, e => by
    obtain ⟨u, h1, h2⟩ := Vals.get (i := i) (x := x) t (by simpa using e)
    exact ⟨u, by simpa using h1, h2⟩
theorem Vals.append : ∀ {xs ys : List V} {us ws : List Value}, Vals xs us → Vals ys ws → Vals (xs ++ ys) (us ++ ws)
  | _, _, _, _, .nil, s => s
  | _, _, _, _, .cons r t, s => .cons r (Vals.append t s)
theorem Vals.take : ∀ {xs : List V} {us : List Value} (n : Nat), Vals xs us → Vals (xs.take n) (us.take n)
  | _, _, 0, _ => .nil
  | _, _, _ + 1, .nil => .nil
  | _, _, n + 1, .cons r t => .cons r (Vals.take n t)
theorem Vals.drop : ∀ {xs : List V} {us : List Value} (n : Nat), Vals xs us → Vals (xs.drop n) (us.drop n)
  | _, _, 0, r => r
  | _, _, _ + 1, .nil => .nil
  | _, _, n + 1, .cons _ t => Vals.drop n t
def RelO : Option V → Option Value → Prop
  | some v, some u => RelV v u
  | none, none => True
  | _, _ => False
def KV {κ : Type} : List (κ × V) → List (κ × Value) → Prop := Paired fun (p : κ × V) (q : κ × Value) => p.1 = q.1 ∧ RelV p.2 q.2
def kV : Key → V
  | .inl i => .int i
  | .inr x => .str x
inductive HO where
  | lst (xs : List V)
  | tup (xs : List V)
  | dK (kvs : List (Key × V)) | dT (kvs : List (List Key × V))
  | set (S : Int → Bool) (n : Nat)
  | ins (C dx : Addr) (fs : List (Str × V))
  | own (x : Addr)
  | xd (fs : List (Str × V))
  | met (f x : Addr)
  | rng (lo hi : Int)
  | frz (o : Obj) (u : HO)
  | tbl (ps : Array Value)
  | ext (φ : Heap → Prop)
abbrev Hp := Addr → Option HO
def upd (H : Hp) (a : Addr) (o : HO) : Hp := fun b => if b = a then some o else H b
theorem upd_same {H : Hp} {a : Addr} {o : HO} : upd H a o a = some o := by unfold upd; rw [if_pos rfl]
theorem upd_ne {H : Hp} {a b : Addr} {o : HO} (h : b ≠ a) : upd H a o b = H b := by unfold upd; rw [if_neg h]
theorem ne_of {H : Hp} {a b : Addr} {o u : HO} (h : H a = some o) (h' : H b = some u) (d : o ≠ u) : a ≠ b := by
  intro e; subst e; rw [h] at h'; exact d (Option.some.inj h')
theorem ne_of_none {H : Hp} {a b : Addr} {o : HO} (h : H a = some o) (h' : H b = none) : a ≠ b := by
  intro e; subst e; rw [h] at h'; cases h'
section
variable (P : Program) (w : World)
def ObjOk (H : Hp) (h : Heap) (a : Addr) : HO → Prop
  | .lst xs => xs.length ≤ sizeLine ∧ ∃ (its : List Value) (n : Nat), Vals xs its ∧ h.get? a = some { cls := .type "list", data := .seq its.toArray n }
  | .tup xs => xs.length ≤ sizeLine ∧ ∃ its : List Value, Vals xs its ∧ IsTup h a its.toArray
  | .dK kvs => kvs.length ≤ sizeLine ∧ (a == sysModules) = false ∧ ∃ vs, KV kvs vs ∧ h.DictOf (mixKind P w) a vs
  | .dT kvs => kvs.length ≤ sizeLine ∧ (a == sysModules) = false ∧ ∃ xs : List (List Key × Addr × Value),
      Paired (fun (p : List Key × V) (q : List Key × Addr × Value) => p.1 = q.1 ∧ H q.2.1 = some (.tup (p.1.map kV)) ∧ RelV p.2 q.2.2) kvs xs ∧
      ∃ o es ep, h.get? a = some o ∧ o.ExactDict ∧ o.data = .dict es ep ∧ es.toList = xs.map (entryOfKey (tupleKind (mixKind P w))) ∧ (xs.map (·.1)).Nodup
  | .set S n => h.SetOf (intKind P w) a S n
  | .ins C dx fs => H dx = some (.own a) ∧ fs.length ≤ 1000 ∧ dx ≠ a ∧ h.get? a = some (PySem.W.instObj C dx) ∧
      ∃ mA, h.Ns1 dx mA ∧ (∀ f, RelO (fs.lookup f) (mA f)) ∧ PySem.Within mA (fs.map (·.1))
  | .own _ => ∃ o, h.get? a = some o
  | .xd fs => ∃ mA, h.Ns1 a mA ∧ ∀ f, RelO (fs.lookup f) (mA f)
  | .rng lo hi => ∃ t u v, h.get? a = some { cls := .type "range", data := .fields #[.int lo t, .int hi u, .int 1 v] }
  | .frz o u => h.get? a = some o ∧ ObjOk H h a u
  | .tbl ps => h.get? a = some { cls := .none, data := .fields ps }
  | .met f x => h.get? a = some (PySem.W.methodObj (.ref f) (.ref x))
  | .ext φ => φ h ∧ (∃ o, h.get? a = some o) ∧ ∀ h1 h2 : Heap, φ h1 → (∀ o, h1.get? a = some o → h2.get? a = some o) → φ h2
def HOk (H : Hp) (h : Heap) : Prop := ∀ a o, H a = some o → ObjOk P w H h a o
end
section
variable {P : Program} {w : World} {H H' : Hp} {h h' : Heap} {a : Addr} {o : HO}
theorem ObjOk.lt (x : ObjOk P w H h a o) : a < h.objs.size := by
  cases o with
  | lst xs => obtain ⟨_, _, _, _, e⟩ := x; exact Heap.lt_size e
  | tup xs => obtain ⟨_, _, _, p⟩ := x; exact p.lt
  | dK kvs => obtain ⟨_, _, _, _, o, _, _, e, _⟩ := x; exact Heap.lt_size e
  | dT kvs => obtain ⟨_, _, _, _, o, _, _, e, _⟩ := x; exact Heap.lt_size e
  | set S n => obtain ⟨o, _, _, _, e, _⟩ := x; exact Heap.lt_size e
  | ins C dx fs => obtain ⟨_, _, _, e, _⟩ := x; exact Heap.lt_size e
  | own y => obtain ⟨_, e⟩ := x; exact Heap.lt_size e
  | xd fs => obtain ⟨_, ⟨_, _, _, e, _⟩, _⟩ := x; exact Heap.lt_size e
  | rng lo hi => obtain ⟨_, _, _, e⟩ := x; exact Heap.lt_size e
  | frz ob u => obtain ⟨e, _⟩ := x; exact Heap.lt_size e
  | tbl ps => exact Heap.lt_size (show h.get? a = some _ from x)
  | met f y => exact Heap.lt_size (show h.get? a = some _ from x)
  | ext φ => obtain ⟨_, ⟨_, e⟩, _⟩ := x; exact Heap.lt_size e
theorem Paired.mapP {α β : Type} {F G : α → β → Prop} : ∀ {l₁ : List α} {l₂ : List β}, Paired F l₁ l₂ → (∀ a b, F a b → G a b) → Paired G l₁ l₂
  | _, _, .nil, _ => .nil
  | _, _, .cons r t, f => .cons (f _ _ r) (Paired.mapP t f)
theorem ObjOk.stay (x : ObjOk P w H h a o) (k : ∀ b u, (b = a ∨ H b = some (.own a)) → h.get? b = some u → h'.get? b = some u)
    (ho : ∀ b, H b = some (.own a) → H' b = some (.own a)) (ht : ∀ b xs, H b = some (.tup xs) → H' b = some (.tup xs)) : ObjOk P w H' h' a o := by
  induction o with
  | lst xs => obtain ⟨z, its, n, r, e⟩ := x; exact ⟨z, its, n, r, k _ _ (.inl rfl) e⟩
  | tup xs => obtain ⟨z, its, r, ob, e, c⟩ := x; exact ⟨z, its, r, ob, k _ _ (.inl rfl) e, c⟩
  | dK kvs => obtain ⟨z, y, vs, r, ob, es, ep, e, c⟩ := x; exact ⟨z, y, vs, r, ob, es, ep, k _ _ (.inl rfl) e, c⟩
  | dT kvs =>
    obtain ⟨z, y, xs, r, ob, es, ep, e, c⟩ := x
    exact ⟨z, y, xs, Paired.mapP r fun p q z => ⟨z.1, ht _ _ z.2.1, z.2.2⟩, ob, es, ep, k _ _ (.inl rfl) e, c⟩
  | set S n => obtain ⟨ob, es, ep, t, e, c⟩ := x; exact ⟨ob, es, ep, t, k _ _ (.inl rfl) e, c⟩
  | ins C dx fs =>
    obtain ⟨d, z, ne, e, mA, ⟨od, es, ep, e2, c⟩, r⟩ := x
    exact ⟨ho _ d, z, ne, k _ _ (.inl rfl) e, mA, ⟨od, es, ep, k _ _ (.inr d) e2, c⟩, r⟩
  | own y => obtain ⟨ob, e⟩ := x; exact ⟨ob, k _ _ (.inl rfl) e⟩
  | xd fs => obtain ⟨mA, ⟨od, es, ep, e, c⟩, r⟩ := x; exact ⟨mA, ⟨od, es, ep, k _ _ (.inl rfl) e, c⟩, r⟩
  | rng lo hi => obtain ⟨t, u, v, e⟩ := x; exact ⟨t, u, v, k _ _ (.inl rfl) e⟩
  | frz ob u ih => obtain ⟨e, q⟩ := x; exact ⟨k _ _ (.inl rfl) e, ih q⟩
  | tbl ps =>
    have e : h.get? a = some { cls := .none, data := .fields ps } := x
    show h'.get? a = some { cls := .none, data := .fields ps }
    exact k a _ (.inl rfl) e
  | met f y =>
    have e : h.get? a = some (PySem.W.methodObj (.ref f) (.ref y)) := x
    show h'.get? a = some (PySem.W.methodObj (.ref f) (.ref y))
    exact k a _ (.inl rfl) e
  | ext φ => obtain ⟨p, ⟨o, e⟩, st⟩ := x; exact ⟨st _ _ p fun o q => k _ _ (.inl rfl) q, ⟨o, k _ _ (.inl rfl) e⟩, st⟩
theorem HOk.lt (x : HOk P w H h) (e : H a = some o) : a < h.objs.size := (x a o e).lt
theorem HOk.fresh (x : HOk P w H h) (e : h.objs.size ≤ a) : H a = none := by
  cases q : H a with
  | none => rfl
  | some u => exact absurd (Nat.lt_of_lt_of_le (x.lt q) e) (Nat.lt_irrefl _)
theorem HOk.kept (x : HOk P w H h) (k : ∀ b u, h.get? b = some u → h'.get? b = some u) : HOk P w H h' := fun a o e =>
  (x a o e).stay (fun b u _ q => k b u q) (fun _ q => q) fun _ _ q => q
theorem HOk.laid (x : HOk P w H h) (k : ∀ b u, h.get? b = some u → h'.get? b = some u) (hp : h.objs.size ≤ a) (new : ObjOk P w (upd H a o) h' a o) : HOk P w (upd H a o) h' := fun b u e => by
  have hn := x.fresh hp
  by_cases hb : b = a
  · subst hb; rw [upd_same] at e; cases e; exact new
  · rw [upd_ne hb] at e
    exact (x b u e).stay (fun c v _ q => k c v q) (fun c q => by rw [upd_ne (ne_of_none q hn)]; exact q) fun c xs q => by rw [upd_ne (ne_of_none q hn)]; exact q
end
def Rd (H : Hp) (a : Addr) (u : HO) : Prop := H a = some u ∨ ∃ o, H a = some (.frz o u)
theorem Rd.ok {P : Program} {w : World} {H : Hp} {h : Heap} {a : Addr} {u : HO} (r : Rd H a u) (x : HOk P w H h) : ObjOk P w H h a u := by
  rcases r with r | ⟨o, r⟩
  · exact x a u r
  · obtain ⟨_, q⟩ := x a _ r
    exact q
def Mut : Option HO → Prop
  | some (.lst _) => True
  | some (.dK _) => True
  | some (.dT _) => True
  | some (.set _ _) => True
  | some (.ins _ _ _) => True
  | some (.ext _) => True
  | _ => False
section
variable {P : Program} {w : World} {H : Hp} {h h' : Heap} {x e : Addr} {o' : HO}
theorem HOk.write (ok : HOk P w H h) (mu : Mut (H x)) (he : e = x ∨ H e = some (.own x)) (k : ∀ b u, b ≠ e → h.get? b = some u → h'.get? b = some u) (heo : ∃ u, h'.get? e = some u)
    (new : ObjOk P w (upd H x o') h' x o') : HOk P w (upd H x o') h' := fun b u q => by
  have nown : ∀ c y, H c = some (.own y) → c ≠ x := fun c y r z => by subst z; rw [r] at mu; exact mu
  have ntup : ∀ c xs, H c = some (.tup xs) → c ≠ x := fun c xs r z => by subst z; rw [r] at mu; exact mu
  by_cases hb : b = x
  · subst hb; rw [upd_same] at q; cases q; exact new
  · rw [upd_ne hb] at q
    by_cases hbe : b = e
    · have q' : H b = some (.own x) := by
        rcases he with z | z
        · exact absurd (hbe.trans z) hb
        · rw [hbe]; exact z
      rw [q] at q'; cases q'
      obtain ⟨v, hv⟩ := heo
      exact ⟨v, by rw [hbe]; exact hv⟩
    · refine (ok b u q).stay (fun c v hc r => k c v ?_ r) (fun c r => by rw [upd_ne (nown c b r)]; exact r) fun c xs r => by rw [upd_ne (ntup c xs r)]; exact r
      rcases hc with rfl | hc
      · exact hbe
      · rintro rfl
        rcases he with z | z
        · exact nown c b hc z
        · rw [hc] at z; cases z; exact hb rfl
end
structure Un (fs ex : List Addr) (H H' : Hp) (h h' : Heap) : Prop where
  keep : ∀ b o, h.get? b = some o → H b = none → b ∉ fs → b ∉ ex → h'.get? b = some o
  slot : ∀ b o, h.get? b = some o → H b = none → b ∈ fs → b ∉ ex → ∃ sl, h'.get? b = some { o with slots := sl }
  free : ∀ b o, h.get? b = some o → H b = none → b ∉ ex → H' b = none
  there : ∀ b o, h.get? b = some o → b ∉ ex → ∃ o', h'.get? b = some o'
  tups : ∀ b xs, H b = some (.tup xs) → H' b = some (.tup xs)
  frzs : ∀ b o u, H b = some (.frz o u) → H' b = some (.frz o u)
  tbls : ∀ b ps, H b = some (.tbl ps) → ∃ more, H' b = some (.tbl (ps ++ more))
section
variable {fs fs' ex ex' : List Addr} {H H1 H2 : Hp} {h h1 h2 h' : Heap} {a x e : Addr} {o : HO}
theorem Un.any (u : Un fs ex H H1 h h1) {b : Addr} {ob : Obj} (q : h.get? b = some ob) (n : H b = none) (hx : b ∉ ex) : ∃ sl, h1.get? b = some { ob with slots := sl } := by
  by_cases hb : b ∈ fs
  · exact u.slot b ob q n hb hx
  · exact ⟨ob.slots, u.keep b ob q n hb hx⟩
theorem Un.kept (k : ∀ b u, h.get? b = some u → h'.get? b = some u) : Un fs ex H H h h' :=
  ⟨fun b ob q _ _ _ => k b ob q, fun b ob q _ _ _ => ⟨ob.slots, k b ob q⟩, fun _ _ _ n _ => n, fun b ob q _ => ⟨ob, k b ob q⟩, fun _ _ q => q, fun _ _ _ q => q, fun _ ps q => ⟨#[], by rw [q]; simp⟩⟩
theorem Un.refl : Un fs ex H H h h := Un.kept fun _ _ q => q
theorem Un.laid (k : ∀ b u, h.get? b = some u → h'.get? b = some u) (hp : h.objs.size ≤ a) (hn : H a = none) : Un fs ex H (upd H a o) h h' where
  keep := fun b u q _ _ _ => k b u q
  slot := fun b u q _ _ _ => ⟨u.slots, k b u q⟩
  free := fun b u q n _ => by rw [upd_ne (Nat.ne_of_lt (Nat.lt_of_lt_of_le (Heap.lt_size q) hp))]; exact n
  there := fun b u q _ => ⟨u, k b u q⟩
  tups := fun b xs q => by rw [upd_ne (ne_of_none q hn)]; exact q
  frzs := fun b u xs q => by rw [upd_ne (ne_of_none q hn)]; exact q
  tbls := fun b ps q => ⟨#[], by rw [upd_ne (ne_of_none q hn), q]; simp⟩
theorem Un.write (mu : Mut (H x)) (he : e = x ∨ H e = some (.own x)) (k : ∀ b u, b ≠ e → h.get? b = some u → h'.get? b = some u) (heo : ∃ u, h'.get? e = some u) : Un fs ex H (upd H x o) h h' := by
  have hx : ∀ b, H b = none → b ≠ x := fun b n z => by subst z; rw [n] at mu; exact mu
  have hb : ∀ b, H b = none → b ≠ e := fun b n z => by
    subst z
    rcases he with r | r
    · exact hx b n r
    · rw [n] at r; cases r
  have hm : ∀ b u, H b = some u → ¬ Mut (some u) → b ≠ x := fun b u q nm z => by subst z; rw [q] at mu; exact nm mu
  refine ⟨fun b u q n _ _ => k b u (hb b n) q, fun b u q n _ _ => ⟨u.slots, k b u (hb b n) q⟩, fun b u q n _ => by rw [upd_ne (hx b n)]; exact n, fun b u q _ => ?_,
    fun b xs q => by rw [upd_ne (hm b _ q fun z => z)]; exact q, fun b u xs q => by rw [upd_ne (hm b _ q fun z => z)]; exact q, fun b ps q => ⟨#[], by rw [upd_ne (hm b _ q fun z => z), q]; simp⟩⟩
  by_cases hbe : b = e
  · subst hbe; exact heo
  · exact ⟨u, k b u hbe q⟩
end
def trk (h : Heap) (H : Hp) : List Addr := (List.range h.objs.size).filter fun a => (H a).isSome
def hidT (h : Heap) (H : Hp) : Heap := PySem.W.hideAll h (trk h H)
theorem hidT_size (h : Heap) (H : Hp) : (hidT h H).objs.size = h.objs.size := PySem.W.hideAll_size _ _
theorem hidT_get {h : Heap} {H : Hp} {b : Addr} {o : Obj} (e : h.get? b = some o) (n : H b = none) : (hidT h H).get? b = some o :=
  PySem.W.hideAll_get _ e fun hm => by
    have q : (H b).isSome = true := (List.mem_filter.mp hm).2
    rw [n] at q; simp at q
theorem of_hidT {h : Heap} {H : Hp} {b : Addr} {o : Obj} (e : (hidT h H).get? b = some o) : h.get? b = some o ∧ H b = none := by
  have e' : h.get? b = some o := PySem.W.of_hideAll (trk h H) e
  refine ⟨e', ?_⟩
  cases q : H b with
  | none => rfl
  | some x =>
    have hm : b ∈ trk h H := List.mem_filter.mpr ⟨List.mem_range.mpr (Heap.lt_size e'), by simp [q]⟩
    have z : (hidT h H).get? b = none := PySem.W.hideAll_none (trk h H) hm
    rw [z] at e; cases e
end L2
namespace L2
open PySem PySem.Spec PyProof.Rows
structure Mod (K : PySem.W.Frag) (mg : Str → Option Value) (base : Heap) : Prop where
  kin : K.In base
  glob : base.Ns mainGlobals mg
  blt : ∃ mb, base.Ns builtinsNs mb ∧ ∀ x : Str, x ≠ "__name__" → mb x = bootBuiltins x
  nolimit : base.NoLimit
structure Cx where
  prog : Program
  w : World
  K : PySem.W.Frag
  mg : Str → Option Value
  base : Heap
  A : Around
  N : List Str
  s_0 : Shared
  H_0 : Hp
  env : Env
  outer : List Env
  stack : List Env
  ex : List Addr
  fn : Str → Bool
  calm : Bool
  pn : List (Addr × Obj)
  xe : Value → Shared → Prop
def frs (l : List Env) : List Addr := l.filterMap (·.frame)
abbrev Cx.fs (X : Cx) : List Addr := frs X.outer
def Vis (sc : Scope) (x : Str) : Prop := sc.names.lookup x = some .local ∨ sc.names.lookup x = some .cell ∨ sc.names.lookup x = some .free
def Loc (sc : Scope) (x : Str) : Prop := sc.names.lookup x = some .local ∨ sc.names.lookup x = some .cell
def Look (env : Env) (h : Heap) (m : Str → Option Value) (x : Str) (u : Value) : Prop :=
  (env.kindOf x = some .local ∧ m x = some u) ∨ ((env.kindOf x = some .cell ∨ env.kindOf x = some .free) ∧ ∃ c, env.cells.lookup x = some c ∧ h.IsCell c (some u))
structure Cx.Ok (X : Cx) : Prop where
  mod : Mod X.K X.mg X.base
  kind : X.env.scope.kind = .function
  glob : X.env.globals = mainGlobals
  blt : X.env.builtins = builtinsNs
  above : X.s_0.heap.objs.size ≤ X.env.locals
  inj : ∀ x y c, X.env.cells.lookup x = some c → X.env.cells.lookup y = some c → x = y
  has : ∀ x, (X.env.kindOf x = some .cell ∨ X.env.kindOf x = some .free) → ∃ c, X.env.cells.lookup x = some c
  cab : ∀ x c, X.fn x = true → X.env.cells.lookup x = some c → X.s_0.heap.objs.size ≤ c
  hd : X.calm = true → X.A.handled = none
  frames : X.A.frames = some X.stack
  stk : X.stack = X.outer ∨ (X.stack = X.env :: X.outer ∧ X.env.frame = some X.env.locals)
  exf : ∀ b ∈ X.ex, b ≠ X.env.locals ∧ ∀ x c, X.env.cells.lookup x = some c → c ≠ b
  bs : ∀ b o, X.base.get? b = some o → X.s_0.heap.get? b = some o ∧ X.H_0 b = none
  bsz : X.base.objs.size ≤ X.s_0.heap.objs.size
  noex : ∀ b o, X.base.get? b = some o → b ∉ X.ex
  exfs : ∀ b ∈ X.ex, b ∉ X.fs
  funs : X.s_0.heap.FunFrames X.base X.outer
  frf : ∀ b ∈ X.fs, X.H_0 b = none
structure Inv (X : Cx) (pins : List (Addr × Obj)) (σ : List (Option V)) (H : Hp) (s : Shared) : Prop where
  ok : X.Ok
  os : s.os = X.s_0.os
  bare : AllBare s.gens
  base : Un X.fs X.ex X.H_0 H X.s_0.heap s.heap
  loc : ∃ m, s.heap.Ns X.env.locals m ∧ ∀ (i : Nat) (x : Str) (v : V), X.N[i]? = some x → σ[i]? = some (some v) → Vis X.env.scope x → ∃ u, RelV v u ∧ Look X.env s.heap m x u
  cell : ∀ x c, X.env.cells.lookup x = some c → ∃ v, s.heap.IsCell c v
  free : H X.env.locals = none
  freeC : ∀ x c, X.env.cells.lookup x = some c → H c = none
  pin : ∀ p ∈ X.pn ++ pins, s.heap.get? p.1 = some p.2 ∧ H p.1 = none ∧ p.1 ≠ X.env.locals ∧ p.1 ∉ X.fs ∧ ∀ v, p.2.data ≠ .cell v
  hok : HOk X.prog X.w H s.heap
  len : σ.length = X.N.length
section
variable {X : Cx} {pins : List (Addr × Obj)} {σ : List (Option V)} {H H' : Hp} {s : Shared} {h' : Heap}
theorem Cx.Ok.nofr (ok : X.Ok) {b : Addr} {o : Obj} (e : X.base.get? b = some o) : b ∉ X.fs := fun hb => by
  have := (ok.funs.mem hb).1
  rw [e] at this; cases this
theorem Inv.bs (I : Inv X pins σ H s) : ∀ b o, X.base.get? b = some o → s.heap.get? b = some o ∧ H b = none := fun b o e =>
  ⟨I.base.keep b o (I.ok.bs b o e).1 (I.ok.bs b o e).2 (I.ok.nofr e) (I.ok.noex b o e), I.base.free b o (I.ok.bs b o e).1 (I.ok.bs b o e).2 (I.ok.noex b o e)⟩
theorem Inv.bk (I : Inv X pins σ H s) : ∀ b o, X.base.get? b = some o → s.heap.get? b = some o := fun b o e => (I.bs b o e).1
theorem Inv.mod (I : Inv X pins σ H s) : Mod X.K X.mg X.base := I.ok.mod
theorem Inv.kIn (I : Inv X pins σ H s) : X.K.In s.heap := I.ok.mod.kin.keeps I.bk
theorem Inv.fr (I : Inv X pins σ H s) : ∃ m, Fr X.base X.env.locals s.heap m :=
  let ⟨m, hn, _⟩ := I.loc
  ⟨m, hn, I.bk, Nat.le_trans I.ok.bsz I.ok.above⟩
theorem Inv.lt (I : Inv X pins σ H s) : X.env.locals < s.heap.objs.size := let ⟨_, hn, _⟩ := I.loc; hn.lt
theorem Inv.sz (I : Inv X pins σ H s) : X.s_0.heap.objs.size ≤ s.heap.objs.size := Nat.le_trans I.ok.above (Nat.le_of_lt I.lt)
theorem Inv.nofs (I : Inv X pins σ H s) {a : Addr} (h : s.heap.objs.size ≤ a) : a ∉ X.fs := fun hb => by
  obtain ⟨_, o, ho, _⟩ := I.ok.funs.mem hb
  exact absurd (Nat.lt_of_lt_of_le (Heap.lt_size ho) (Nat.le_trans I.sz h)) (Nat.lt_irrefl _)
theorem Inv.cne (I : Inv X pins σ H s) : ∀ x c, X.env.cells.lookup x = some c → c ≠ X.env.locals := fun x c e z => by
  obtain ⟨v, o, ho, hd⟩ := I.cell x c e
  obtain ⟨m, ⟨o', es, ep, ho', hd', _⟩, _⟩ := I.loc
  rw [z, ho'] at ho; cases ho; rw [hd'] at hd; cases hd
theorem Inv.funs (I : Inv X pins σ H s) : s.heap.FunFrames X.base X.outer := by
  have all : ∀ (l : List Env), (∀ b ∈ frs l, b ∈ X.fs) → X.s_0.heap.FunFrames X.base l → s.heap.FunFrames X.base l := by
    intro l
    induction l with
    | nil => intro _ _; trivial
    | cons env r ih =>
      intro hs hl
      obtain ⟨hk, ⟨L, o, hf, hn, ho, hd⟩, hr⟩ := hl
      have hL : L ∈ X.fs := hs L (by unfold frs; rw [List.filterMap_cons, hf]; exact List.mem_cons_self)
      obtain ⟨sl, e⟩ := I.base.slot L o ho (I.ok.frf L hL) hL fun z => I.ok.exfs L z hL
      exact ⟨hk, ⟨L, _, hf, hn, e, hd⟩, ih (fun b hb => hs b (by unfold frs; rw [List.filterMap_cons, hf]; exact List.mem_cons_of_mem _ hb)) hr⟩
  exact all X.outer (fun _ hb => hb) I.ok.funs
theorem Inv.stack (I : Inv X pins σ H s) : s.heap.FunFrames X.base X.stack := by
  rcases I.ok.stk with e | ⟨e, hf⟩
  · rw [e]; exact I.funs
  · rw [e]
    obtain ⟨m, hn, _⟩ := I.loc
    refine .cons (by rw [I.ok.kind]; decide) hf hn ?_ I.funs
    exact Heap.get?_none_of_le (Nat.le_trans I.ok.bsz I.ok.above)
theorem Inv.stkSub (I : Inv X pins σ H s) : ∀ b ∈ frs X.stack, b ∈ X.env.locals :: X.fs := fun b hb => by
  rcases I.ok.stk with e | ⟨e, hf⟩
  · rw [e] at hb; exact List.mem_cons_of_mem _ hb
  · rw [e] at hb
    unfold frs at hb
    rw [List.filterMap_cons, hf] at hb
    exact hb
theorem Inv.stkFree (I : Inv X pins σ H s) : ∀ b ∈ frs X.stack, H b = none := fun b hb => by
  rcases List.mem_cons.mp (I.stkSub b hb) with e | hb
  · rw [e]; exact I.free
  · obtain ⟨_, o, ho, _⟩ := I.ok.funs.mem hb
    exact I.base.free b o ho (I.ok.frf b hb) fun z => I.ok.exfs b z hb
theorem Inv.step {g' : Array GenState} {t' : Nat} {d' : Drawn} {ch : List Addr} (I : Inv X pins σ H s)
    (hch : ∀ b ∈ ch, (b ∈ X.ex ∨ X.s_0.heap.objs.size ≤ b) ∧ b ≠ X.env.locals ∧ (∀ x c, X.env.cells.lookup x = some c → c ≠ b) ∧ ∀ p ∈ X.pn ++ pins, p.1 ≠ b)
    (keep : ∀ b o, b ≠ X.env.locals → b ∉ X.fs → b ∉ ch → s.heap.get? b = some o → H b = none → h'.get? b = some o)
    (slot : ∀ b o, b ≠ X.env.locals → b ∈ X.fs → b ∉ ch → s.heap.get? b = some o → H b = none → ∃ sl, h'.get? b = some { o with slots := sl }) (free : ∀ b o, b ∉ ch → s.heap.get? b = some o → H b = none → H' b = none)
    (there : ∀ b o, b ∉ ch → s.heap.get? b = some o → ∃ o', h'.get? b = some o')
    (tups : ∀ b xs, H b = some (.tup xs) → H' b = some (.tup xs)) (frzs : ∀ b o u, H b = some (.frz o u) → H' b = some (.frz o u)) (tbls : ∀ b ps, H b = some (.tbl ps) → ∃ more, H' b = some (.tbl (ps ++ more)))
    (ns : ∀ m, s.heap.Ns X.env.locals m → h'.Ns X.env.locals m) (hok : HOk X.prog X.w H' h') (hg : AllBare g') :
    Inv X pins σ H' { s with heap := h', gens := g', drawn := d', toks := t' } := by
  have neL : ∀ b o, X.s_0.heap.get? b = some o → b ≠ X.env.locals := fun b o e => Nat.ne_of_lt (Nat.lt_of_lt_of_le (Heap.lt_size e) I.ok.above)
  have neC : ∀ b o, X.s_0.heap.get? b = some o → b ∉ X.ex → b ∉ ch := fun b o e hx hb => by
    rcases (hch b hb).1 with z | z
    · exact hx z
    · exact absurd (Nat.lt_of_lt_of_le (Heap.lt_size e) z) (Nat.lt_irrefl _)
  have cellK : ∀ x c, X.env.cells.lookup x = some c → ∀ v, s.heap.IsCell c v → h'.IsCell c v := fun x c e v ⟨o, ho, hd⟩ => by
    have nch : c ∉ ch := fun z => (hch c z).2.2.1 x c e rfl
    by_cases hc : c ∈ X.fs
    · obtain ⟨sl, q⟩ := slot c o (I.cne x c e) hc nch ho (I.freeC x c e)
      exact ⟨_, q, hd⟩
    · exact ⟨o, keep c o (I.cne x c e) hc nch ho (I.freeC x c e), hd⟩
  refine ⟨I.ok, I.os, hg, ⟨fun b o e n hb hx => ?_, fun b o e n hb hx => ?_, fun b o e n hx => ?_, fun b o e hx => ?_, fun b xs e => tups b xs (I.base.tups b xs e), fun b o xs e => frzs b o xs (I.base.frzs b o xs e), fun b ps e => ?_⟩, ?_, fun x c e => ?_, ?_, fun x c e => ?_, fun p hp => ?_, hok, I.len⟩
  · exact keep b o (neL b o e) hb (neC b o e hx) (I.base.keep b o e n hb hx) (I.base.free b o e n hx)
  · obtain ⟨sl, e1⟩ := I.base.slot b o e n hb hx
    obtain ⟨sl', e2⟩ := slot b _ (neL b o e) hb (neC b o e hx) e1 (I.base.free b o e n hx)
    exact ⟨sl', e2⟩
  · obtain ⟨o', e1⟩ := I.base.there b o e hx
    exact free b o' (neC b o e hx) e1 (I.base.free b o e n hx)
  · obtain ⟨o', e1⟩ := I.base.there b o e hx
    exact there b o' (neC b o e hx) e1
  · obtain ⟨m1, e1⟩ := I.base.tbls b ps e
    obtain ⟨m2, e2⟩ := tbls b _ e1
    exact ⟨m1 ++ m2, by rw [e2, Array.append_assoc]⟩
  · obtain ⟨m, hn, hl⟩ := I.loc
    refine ⟨m, ns m hn, fun i x v e1 e2 e3 => ?_⟩
    obtain ⟨u, r, l⟩ := hl i x v e1 e2 e3
    refine ⟨u, r, ?_⟩
    rcases l with l | ⟨k, c, e, z⟩
    · exact .inl l
    · exact .inr ⟨k, c, e, cellK x c e _ z⟩
  · obtain ⟨v, z⟩ := I.cell x c e
    exact ⟨v, cellK x c e v z⟩
  · obtain ⟨m, ⟨o, _, _, ho, _⟩, _⟩ := I.loc
    exact free _ o (fun z => (hch _ z).2.1 rfl) ho I.free
  · obtain ⟨v, o, ho, hd⟩ := I.cell x c e
    exact free c o (fun z => (hch c z).2.2.1 x c e rfl) ho (I.freeC x c e)
  · obtain ⟨e, n, ne, nf, d⟩ := I.pin p hp
    have nch : p.1 ∉ ch := fun z => (hch p.1 z).2.2.2 p hp rfl
    exact ⟨keep p.1 p.2 ne nf nch e n, free p.1 p.2 nch e n, ne, nf, d⟩
theorem Inv.un {t' : Nat} (I : Inv X pins σ H s) (u : Un X.fs [] H H' s.heap h') (hok : HOk X.prog X.w H' h') : Inv X pins σ H' { s with heap := h', toks := t' } := by
  obtain ⟨m, ⟨o, es, ep, ho, r⟩, _⟩ := id I.loc
  obtain ⟨sl, hL⟩ := u.any ho I.free (by simp)
  exact I.step (g' := s.gens) (d' := s.drawn) (ch := []) (fun _ z => nomatch z) (fun b o _ hb _ e n => u.keep b o e n hb (by simp)) (fun b o _ hb _ e n => u.slot b o e n hb (by simp)) (fun b o _ e n => u.free b o e n (by simp)) (fun b o _ e => u.there b o e (by simp)) u.tups u.frzs u.tbls (fun m' hm => by
    obtain ⟨o', es', ep', ho', r'⟩ := hm
    rw [ho] at ho'; cases ho'
    exact ⟨_, es', ep', hL, r'⟩) hok I.bare
theorem Inv.call {g' : Array GenState} {t' : Nat} {d' : Drawn} {ch : List Addr} (I : Inv X pins σ H s) (u : Un (frs X.stack) ch H H' s.heap h') (hok : HOk X.prog X.w H' h') (hg : AllBare g')
    (hch : ∀ b ∈ ch, (b ∈ X.ex ∨ X.s_0.heap.objs.size ≤ b) ∧ b ≠ X.env.locals ∧ (∀ x c, X.env.cells.lookup x = some c → c ≠ b) ∧ ∀ p ∈ X.pn ++ pins, p.1 ≠ b) :
    Inv X pins σ H' { s with heap := h', gens := g', drawn := d', toks := t' } := by
  obtain ⟨m, ⟨o, es, ep, ho, r⟩, _⟩ := id I.loc
  obtain ⟨sl, hL⟩ := u.any ho I.free fun z => (hch _ z).2.1 rfl
  exact I.step (ch := ch) hch (fun b o hL hb hc e n => u.keep b o e n (fun z => (List.mem_cons.mp (I.stkSub b z)).elim hL hb) hc) (fun b o _ _ hc e n => u.any e n hc) (fun b o hc e n => u.free b o e n hc) (fun b o hc e => u.there b o e hc) u.tups u.frzs u.tbls (fun m' hm => by
    obtain ⟨o', es', ep', ho', r'⟩ := hm
    rw [ho] at ho'; cases ho'
    exact ⟨_, es', ep', hL, r'⟩) hok hg
theorem Inv.turned {t' : Nat} {it : Addr} (I : Inv X pins σ H s) (k : ∀ b o, b ≠ it → s.heap.get? b = some o → h'.get? b = some o) (hn : H it = none) (hL : it ≠ X.env.locals)
    (h1 : it ∈ X.ex ∨ X.s_0.heap.objs.size ≤ it) (h2 : ∀ x c, X.env.cells.lookup x = some c → c ≠ it) (h3 : ∀ p ∈ X.pn ++ pins, p.1 ≠ it) : Inv X pins σ H { s with heap := h', toks := t' } := by
  have nit : ∀ b u, H b = some u → b ≠ it := fun b u e z => by rw [z, hn] at e; cases e
  refine I.step (g' := s.gens) (d' := s.drawn) (ch := [it]) (fun b hb => ?_) (fun b o _ _ hc e _ => k b o (fun z => hc (by simp [z])) e) (fun b o _ _ hc e _ => ⟨o.slots, k b o (fun z => hc (by simp [z])) e⟩) (fun _ _ _ _ n => n)
    (fun b o hc e => ⟨o, k b o (fun z => hc (by simp [z])) e⟩) (fun _ _ e => e) (fun _ _ _ e => e) (fun b ps e => ⟨#[], by rw [e]; simp⟩) (fun m hm => ?_) (fun b u e => ?_) I.bare
  · have e : b = it := by simpa using hb
    subst e
    exact ⟨h1, hL, h2, h3⟩
  · obtain ⟨o, es, ep, ho, r⟩ := hm
    exact ⟨o, es, ep, k _ o (Ne.symm hL) ho, r⟩
  · refine (I.hok b u e).stay (fun c v hc q => k c v ?_ q) (fun _ q => q) fun _ _ q => q
    rcases hc with z | z
    · rw [z]; exact nit b u e
    · exact nit c _ z
theorem Inv.tok (I : Inv X pins σ H s) (t : Nat) : Inv X pins σ H { s with toks := t } := I.un (h' := s.heap) (t' := t) Un.refl I.hok
theorem Inv.kept {t' : Nat} (I : Inv X pins σ H s) (k : ∀ b u, s.heap.get? b = some u → h'.get? b = some u) : Inv X pins σ H { s with heap := h', toks := t' } := I.un (Un.kept k) (I.hok.kept k)
theorem Inv.laid {a : Addr} {o : HO} {t' : Nat} (I : Inv X pins σ H s) (k : ∀ b u, s.heap.get? b = some u → h'.get? b = some u) (hp : s.heap.objs.size ≤ a) (new : ObjOk X.prog X.w (upd H a o) h' a o) :
    Inv X pins σ (upd H a o) { s with heap := h', toks := t' } := I.un (Un.laid k hp (I.hok.fresh hp)) (I.hok.laid k hp new)
theorem Inv.write {x e : Addr} {o : HO} {t' : Nat} (I : Inv X pins σ H s) (mu : Mut (H x)) (he : e = x ∨ H e = some (.own x)) (k : ∀ b u, b ≠ e → s.heap.get? b = some u → h'.get? b = some u) (heo : ∃ u, h'.get? e = some u)
    (new : ObjOk X.prog X.w (upd H x o) h' x o) : Inv X pins σ (upd H x o) { s with heap := h', toks := t' } := I.un (Un.write mu he k heo) (I.hok.write mu he k heo new)
theorem Inv.weak {σ' : List (Option V)} (I : Inv X pins σ H s) (hl : σ'.length = σ.length) (w : ∀ (i : Nat) v, σ'[i]? = some (some v) → σ[i]? = some (some v)) : Inv X pins σ' H s :=
  ⟨I.ok, I.os, I.bare, I.base, let ⟨m, hn, hl'⟩ := I.loc; ⟨m, hn, fun i x v e1 e2 e3 => hl' i x v e1 (w i v e2) e3⟩, I.cell, I.free, I.freeC, I.pin, I.hok, hl.trans I.len⟩
theorem Inv.pins_of {pins' : List (Addr × Obj)} (I : Inv X pins σ H s) (h : ∀ p ∈ pins', s.heap.get? p.1 = some p.2 ∧ H p.1 = none ∧ p.1 ≠ X.env.locals ∧ p.1 ∉ X.fs ∧ ∀ v, p.2.data ≠ .cell v) : Inv X pins' σ H s :=
  ⟨I.ok, I.os, I.bare, I.base, I.loc, I.cell, I.free, I.freeC, fun p hp => (List.mem_append.mp hp).elim (fun z => I.pin p (List.mem_append_left _ z)) (h p), I.hok, I.len⟩
theorem nodup_ix {N : List Str} (hN : N.Nodup) {i j : Nat} {x : Str} (a : N[i]? = some x) (b : N[j]? = some x) : i = j := by
  obtain ⟨h1, e1⟩ := List.getElem?_eq_some_iff.mp a
  obtain ⟨h2, e2⟩ := List.getElem?_eq_some_iff.mp b
  exact (List.getElem_inj hN).mp (e1.trans e2.symm)
theorem store_ok2 {M : Model} {A : Around} {E : Value → Shared → Prop} {i : Nat} {x : Str} {v : V} {u : Value} {Q : Unit → Shared → Prop} (I : Inv X pins σ H s) (hN : X.N.Nodup) (hi : X.N[i]? = some x) (hx : Loc X.env.scope x) (r : RelV v u)
    (h : ∀ s', Inv X pins (σ.set i (some v)) H s' → (∃ a, Heap.SameBut a s.heap s'.heap ∧ (a = X.env.locals ∨ X.env.cells.lookup x = some a)) → Q () s') (hf : X.fn x = true ∨ X.env.scope.names.lookup x = some .local := by first | exact .inl rfl | exact .inr rfl | assumption) : wpAny M A (storeName X.env x u) Q E s := by
  obtain ⟨m, hn, hl⟩ := id I.loc
  have hcls : (X.env.scope.kind == .class || (X.env.scope.kind == .module && X.env.locals != X.env.globals)) = false := by rw [I.ok.kind]; rfl
  have hiσ : i < σ.length := by rw [I.len]; exact (List.getElem?_eq_some_iff.mp hi).1
  have cne := I.cne
  have tracked : ∀ {a : Addr} {h' : Heap}, (∃ o, s.heap.get? a = some o ∧ H a = none) → Heap.SameBut a s.heap h' → HOk X.prog X.w H h' := fun {a h'} ha hs b ob e => by
    obtain ⟨_, _, hfree⟩ := ha
    refine (I.hok b ob e).stay (fun c w' hc q => (hs.2 c ?_).trans q) (fun _ q => q) fun _ _ q => q
    rintro rfl
    rcases hc with rfl | hc
    · rw [hfree] at e; cases e
    · rw [hfree] at hc; cases hc
  rcases hx with hk | hk
  · refine wpAny_storeName_local hk hn (fun h' hn' hs => ?_) hcls
    obtain ⟨oL, _, _, hoL, _⟩ := id hn
    refine h _ ⟨I.ok, I.os, I.bare, ⟨fun b o e n hb hx => ?_, fun b o e n hb hx => ?_, I.base.free, fun b o e hx => ?_, I.base.tups, I.base.frzs, I.base.tbls⟩, ⟨_, hn', fun j y v' e1 e2 e3 => ?_⟩, fun y c e => ?_, I.free, I.freeC, fun p hp => ?_, tracked ⟨oL, hoL, I.free⟩ hs, by simpa using I.len⟩ ⟨_, hs, .inl rfl⟩
    · exact (hs.2 b (Nat.ne_of_lt (Nat.lt_of_lt_of_le (Heap.lt_size e) I.ok.above))).trans (I.base.keep b o e n hb hx)
    · obtain ⟨sl, e1⟩ := I.base.slot b o e n hb hx
      exact ⟨sl, (hs.2 b (Nat.ne_of_lt (Nat.lt_of_lt_of_le (Heap.lt_size e) I.ok.above))).trans e1⟩
    · obtain ⟨o', e1⟩ := I.base.there b o e hx
      exact ⟨o', (hs.2 b (Nat.ne_of_lt (Nat.lt_of_lt_of_le (Heap.lt_size e) I.ok.above))).trans e1⟩
    · by_cases hj : j = i
      · subst hj
        rw [hi] at e1; cases e1
        rw [List.getElem?_set_self hiσ] at e2
        cases e2
        exact ⟨u, r, .inl ⟨hk, by simp⟩⟩
      · rw [List.getElem?_set_ne (Ne.symm hj)] at e2
        obtain ⟨u', r', q⟩ := hl j y v' e1 e2 e3
        refine ⟨u', r', ?_⟩
        rcases q with ⟨k, e⟩ | ⟨k, c, e, z⟩
        · refine .inl ⟨k, ?_⟩
          have : y ≠ x := fun e => hj (nodup_ix hN e1 (e ▸ hi))
          simp [this, e]
        · exact .inr ⟨k, c, e, z.sameBut hs (cne y c e)⟩
    · obtain ⟨w', z⟩ := I.cell y c e
      exact ⟨w', z.sameBut hs (cne y c e)⟩
    · obtain ⟨e, n, ne, nf, d⟩ := I.pin p hp
      exact ⟨(hs.2 p.1 ne).trans e, n, ne, nf, d⟩
  · have hfn : X.fn x = true := by
      rcases hf with z | z
      · exact z
      · rw [z] at hk; cases hk
    obtain ⟨c, hc⟩ := I.ok.has x (.inl hk)
    obtain ⟨w', z⟩ := I.cell x c hc
    refine wpAny_storeName_cell I.ok.kind hk hc z (fun h' hc' hs => ?_)
    obtain ⟨oc, hoc, hocd⟩ := id z
    refine h { s with heap := h' } ⟨I.ok, I.os, I.bare, ⟨fun b o e n hb hx => ?_, fun b o e n hb hx => ?_, I.base.free, fun b o e hx => ?_, I.base.tups, I.base.frzs, I.base.tbls⟩, ⟨m, hn.sameBut hs (Ne.symm (cne x c hc)), fun j y v' e1 e2 e3 => ?_⟩, fun y c' e => ?_, I.free, I.freeC, fun p hp => ?_, tracked ⟨oc, hoc, I.freeC x c hc⟩ hs, by simpa using I.len⟩ ⟨c, hs, .inr hc⟩
    · exact (hs.2 b (Nat.ne_of_lt (Nat.lt_of_lt_of_le (Heap.lt_size e) (I.ok.cab x c hfn hc)))).trans (I.base.keep b o e n hb hx)
    · obtain ⟨sl, e1⟩ := I.base.slot b o e n hb hx
      exact ⟨sl, (hs.2 b (Nat.ne_of_lt (Nat.lt_of_lt_of_le (Heap.lt_size e) (I.ok.cab x c hfn hc)))).trans e1⟩
    · obtain ⟨o', e1⟩ := I.base.there b o e hx
      exact ⟨o', (hs.2 b (Nat.ne_of_lt (Nat.lt_of_lt_of_le (Heap.lt_size e) (I.ok.cab x c hfn hc)))).trans e1⟩
    · by_cases hj : j = i
      · subst hj
        rw [hi] at e1; cases e1
        rw [List.getElem?_set_self hiσ] at e2
        cases e2
        exact ⟨u, r, .inr ⟨.inl hk, c, hc, hc'⟩⟩
      · rw [List.getElem?_set_ne (Ne.symm hj)] at e2
        obtain ⟨u', r', q⟩ := hl j y v' e1 e2 e3
        refine ⟨u', r', ?_⟩
        rcases q with q | ⟨k, c', e, z'⟩
        · exact .inl q
        · refine .inr ⟨k, c', e, z'.sameBut hs ?_⟩
          rintro rfl
          exact hj (nodup_ix hN e1 (I.ok.inj _ _ _ e hc ▸ hi))
    · by_cases hcc : c' = c
      · subst hcc; exact ⟨_, hc'⟩
      · obtain ⟨w2, z2⟩ := I.cell y c' e
        exact ⟨w2, z2.sameBut hs hcc⟩
    · obtain ⟨e, n, ne, nf, d⟩ := I.pin p hp
      refine ⟨(hs.2 p.1 ?_).trans e, n, ne, nf, d⟩
      intro q
      rw [q, hoc] at e
      have q' : oc = p.2 := Option.some.inj e
      exact d w' (by rw [← q']; exact hocd)
theorem store_ok {M : Model} {A : Around} {E : Value → Shared → Prop} {i : Nat} {x : Str} {v : V} {u : Value} {Q : Unit → Shared → Prop} (I : Inv X pins σ H s) (hN : X.N.Nodup) (hi : X.N[i]? = some x) (hx : Loc X.env.scope x) (r : RelV v u)
    (h : ∀ s', Inv X pins (σ.set i (some v)) H s' → Q () s') (hf : X.fn x = true ∨ X.env.scope.names.lookup x = some .local := by first | exact .inl rfl | exact .inr rfl | assumption) : wpAny M A (storeName X.env x u) Q E s :=
  store_ok2 I hN hi hx r (fun s' I' _ => h s' I') hf
theorem Inv.call' {s' : Shared} {ch : List Addr} (I : Inv X pins σ H s) (ho : s'.os = s.os) (u : Un (frs X.stack) ch H H' s.heap s'.heap) (hok : HOk X.prog X.w H' s'.heap) (hg : AllBare s'.gens)
    (hch : ∀ b ∈ ch, (b ∈ X.ex ∨ X.s_0.heap.objs.size ≤ b) ∧ b ≠ X.env.locals ∧ (∀ x c, X.env.cells.lookup x = some c → c ≠ b) ∧ ∀ p ∈ X.pn ++ pins, p.1 ≠ b) : Inv X pins σ H' s' := by
  obtain ⟨h', g', d', t', o'⟩ := s'
  have e : o' = s.os := ho
  subst e
  exact I.call (g' := g') (t' := t') (d' := d') u hok hg hch
end
abbrev XK := Value → Option Addr → Hp → Prop
abbrev St := List (Option V)
abbrev VK := V → Hp → Prop
abbrev TE := St → Hp → VK → Prop
abbrev TT := St → Hp → (Bool → Hp → Prop) → Prop
abbrev TA := St → Hp → (List V → Hp → Prop) → Prop
structure Ends where
  nx : St → Hp → Prop
  rt : VK
  bk : St → Hp → Prop := fun _ _ => False
  ct : St → Hp → Prop := fun _ _ => False
abbrev TS := Ends → St → Hp → Prop
def EP (X : Cx) (pins : List (Addr × Obj)) (σ : St) (Q : VK) (u : Value) (s' : Shared) : Prop := ∃ v H', Inv X pins σ H' s' ∧ RelV v u ∧ Q v H'
def TP (X : Cx) (pins : List (Addr × Obj)) (σ : St) (Q : Bool → Hp → Prop) (b : Bool) (s' : Shared) : Prop := ∃ H', Inv X pins σ H' s' ∧ Q b H'
def AP (X : Cx) (pins : List (Addr × Obj)) (σ : St) (Q : List V → Hp → Prop) (us : List Value) (s' : Shared) : Prop := ∃ vs H', Inv X pins σ H' s' ∧ Vals vs us ∧ Q vs H'
def SP (X : Cx) (pins : List (Addr × Obj)) (D : Ends) (f : Flow) (s' : Shared) : Prop :=
  match f with
  | .next => ∃ σ' H', Inv X pins σ' H' s' ∧ D.nx σ' H'
  | .brk => ∃ σ' H', Inv X pins σ' H' s' ∧ D.bk σ' H'
  | .cont => ∃ σ' H', Inv X pins σ' H' s' ∧ D.ct σ' H'
  | .ret u => ∃ v σ' H', Inv X pins σ' H' s' ∧ RelV v u ∧ D.rt v H'
def PE (X : Cx) (e : Expr) (t : TE) : Prop :=
  ∀ (pins : List (Addr × Obj)) (s : Shared) (σ : St) (H : Hp) (Q : VK), Inv X pins σ H s → t σ H Q → wpAny (model X.prog X.w) X.A (eval e X.env) (EP X pins σ Q) X.xe s
def PT (X : Cx) (e : Expr) (t : TT) : Prop :=
  ∀ (pins : List (Addr × Obj)) (s : Shared) (σ : St) (H : Hp) (Q : Bool → Hp → Prop), Inv X pins σ H s → t σ H Q → wpAny (model X.prog X.w) X.A (isTrue e X.env (eval e X.env)) (TP X pins σ Q) X.xe s
def PW (X : Cx) (e : Expr) (t : TT) : Prop :=
  ∀ (whole : Sem Value) (pins : List (Addr × Obj)) (s : Shared) (σ : St) (H : Hp) (Q : Bool → Hp → Prop), Inv X pins σ H s → t σ H Q → wpAny (model X.prog X.w) X.A (isTrue e X.env whole) (TP X pins σ Q) X.xe s
theorem PW.pt {X : Cx} {e : Expr} {t : TT} (h : PW X e t) : PT X e t := h _
def PA (X : Cx) (es : List Expr) (t : TA) : Prop :=
  ∀ (pos : Pos) (pins : List (Addr × Obj)) (s : Shared) (σ : St) (H : Hp) (Q : List V → Hp → Prop), Inv X pins σ H s → t σ H Q → wpAny (model X.prog X.w) X.A (spliced (backTo pos (starEach es X.env))) (AP X pins σ Q) X.xe s
def PS (X : Cx) (st : Stmt) (t : TS) : Prop :=
  ∀ (pins : List (Addr × Obj)) (s : Shared) (σ : St) (H : Hp) (D : Ends), Inv X pins σ H s → t D σ H → wpAny (model X.prog X.w) X.A (exec st X.env) (SP X pins D) X.xe s
def PSs (X : Cx) (st : List Stmt) (t : TS) : Prop :=
  ∀ (pins : List (Addr × Obj)) (s : Shared) (σ : St) (H : Hp) (D : Ends), Inv X pins σ H s → t D σ H → wpAny (model X.prog X.w) X.A (execs st X.env) (SP X pins D) X.xe s
theorem thn {α : Type} {t : Sem α} {Q Q' : α → Shared → Prop} {M : Model} {A : Around} {E : Value → Shared → Prop} {s : Shared} (h : wpAny M A t Q E s) (hQ : ∀ a s, Q a s → Q' a s) : wpAny M A t Q' E s := wpAny_mono h hQ fun _ _ x => x
end L2
namespace L2
open PySem PySem.Spec PyProof.Rows
section
variable {X : Cx}
theorem bin {a b : Expr} {ta tb : TE} (ha : PE X a ta) (hb : PE X b tb) {pins : List (Addr × Obj)} {s : Shared} {σ : St} {H : Hp} {R : V → V → Hp → Prop} (I : Inv X pins σ H s) (h : ta σ H fun x H1 => tb σ H1 fun y H2 => R x y H2)
    {α : Type} {Q : α → Shared → Prop} {f : Value → Value → Sem α}
    (hf : ∀ v u s2 x y H2, Inv X pins σ H2 s2 → RelV x v → RelV y u → R x y H2 → wpAny (model X.prog X.w) X.A (f v u) Q X.xe s2) :
    wpAny (model X.prog X.w) X.A (eval a X.env) (fun v s₁ => wpAny (model X.prog X.w) X.A (eval b X.env) (fun u s₂ => wpAny (model X.prog X.w) X.A (f v u) Q X.xe s₂) X.xe s₁) X.xe s := by
  refine thn (ha pins s σ H _ I h) fun v s1 ⟨x, H1, I1, r1, q1⟩ => ?_
  refine thn (hb pins s1 σ H1 _ I1 q1) fun u s2 ⟨y, H2, I2, r2, q2⟩ => ?_
  exact hf v u s2 x y H2 I2 r1 r2 q2
def tVar (i : Nat) : TE := fun σ H Q => ∃ v, σ[i]? = some (some v) ∧ Q v H
def tC (v : V) : TE := fun _ H Q => Q v H
theorem pe_var {i : Nat} {x : Str} {pos : Pos} (hN : X.N[i]? = some x) (hv : Vis X.env.scope x) (hd : (x == ("__debug__" : Str)) = false := by decide) (hcd : (x == ("__classdict__" : Str)) = false := by decide) : PE X (.Name x pos) (tVar i) := by
  intro pins s σ H Q I h
  obtain ⟨v, e, h⟩ := h
  obtain ⟨m, hn, hl⟩ := I.loc
  obtain ⟨u, r, l⟩ := hl i x v hN e hv
  have fin : EP X pins σ Q u s := ⟨v, H, I, r, h⟩
  rcases l with ⟨hk, hm⟩ | ⟨hk, c, hc, hcell⟩
  · exact wpAny_Name (wpAny_loadName_local I.ok.kind hk hn hm fin) hd
  · rcases hk with hk | hk
    · exact wpAny_Name (wpAny_loadName_cell I.ok.kind hk hc hcell fin) hd
    · exact wpAny_Name (wpAny_loadName_free I.ok.kind hk hc hcell fin hcd) hd
theorem pe_int {i j pos} : PE X (.Constant (.int i) j pos) (tC (.int i)) := fun _ _ _ H _ I h => wpAny_Constant_int ⟨.int i, H, I.tok _, ⟨_, rfl⟩, h⟩
theorem pe_bl {b j pos} : PE X (.Constant (.bool b) j pos) (tC (.bl b)) := fun _ _ _ H _ I h => Constant_bool ⟨.bl b, H, I, rfl, h⟩
theorem pe_non {j pos} : PE X (.Constant .none j pos) (tC .non) := fun _ _ _ H _ I h => Constant_none ⟨.non, H, I, rfl, h⟩
def Gl (X : Cx) (x : Str) : Prop := X.env.kindOf x = some .globalImplicit
theorem ld_glob {E : Value → Shared → Prop} {pins : List (Addr × Obj)} {s : Shared} {σ : St} {H : Hp} {x : Str} {u : Value} {pos : Pos} {Q : Value → Shared → Prop} (I : Inv X pins σ H s) (hg : Gl X x) (hm : X.mg x = some u) (h : Q u s)
    (hd : (x == ("__debug__" : Str)) = false := by decide) : wpAny (model X.prog X.w) X.A (eval (.Name x pos) X.env) Q E s :=
  Calls.Name_function_global I.ok.kind hg (Calls.loadGlobal_global (by rw [I.ok.glob]; exact I.mod.glob.keeps I.bk) hm h) hd
theorem ld_blt {E : Value → Shared → Prop} {pins : List (Addr × Obj)} {s : Shared} {σ : St} {H : Hp} {x : Str} {u : Value} {pos : Pos} {Q : Value → Shared → Prop} (I : Inv X pins σ H s) (hg : Gl X x) (hm : X.mg x = none) (hv : bootBuiltins x = some u) (h : Q u s)
    (hn : x ≠ "__name__" := by decide) (hd : (x == ("__debug__" : Str)) = false := by decide) : wpAny (model X.prog X.w) X.A (eval (.Name x pos) X.env) Q E s := by
  obtain ⟨mb, h1, h2⟩ := I.mod.blt
  exact Calls.Name_function_global I.ok.kind hg (Calls.loadGlobal_builtin (by rw [I.ok.glob]; exact I.mod.glob.keeps I.bk) hm (by rw [I.ok.blt]; exact h1.keeps I.bk) ((h2 x hn).trans hv) h) hd
theorem pe_glob {x : Str} {v : V} {u : Value} {pos : Pos} (hg : Gl X x) (hm : X.mg x = some u) (r : RelV v u) (hd : (x == ("__debug__" : Str)) = false := by decide) : PE X (.Name x pos) (tC v) :=
  fun _ _ _ H _ I h => ld_glob I hg hm ⟨v, H, I, r, h⟩ hd
variable {a b : Expr} {ta tb : TE} {pos : Pos}
def PC (X : Cx) (op : CmpOp) (a b : Expr) (t : TE) : Prop :=
  ∀ (pins : List (Addr × Obj)) (s : Shared) (σ : St) (H : Hp) (Q : VK), Inv X pins σ H s → t σ H Q →
    wpAny (model X.prog X.w) X.A (eval a X.env) (fun v s₁ => wpAny (model X.prog X.w) X.A (eval b X.env) (fun u s₂ => wpAny (model X.prog X.w) X.A (compareOp op v u) (EP X pins σ Q) X.xe s₂) X.xe s₁) X.xe s
theorem nobehind (b : Expr) {op : CmpOp} (h : op ≠ .In) (h2 : op ≠ .NotIn) : behindInMarks op b = false := by
  have e1 : (op == CmpOp.In) = false := by cases op <;> first | rfl | exact absurd rfl h
  have e2 : (op == CmpOp.NotIn) = false := by cases op <;> first | rfl | exact absurd rfl h2
  cases b <;> simp [behindInMarks, e1, e2]
def tIsN (ta : TE) : TE := fun σ H Q => ta σ H fun x H1 => Q (.bl (decide (x = .non))) H1
def tNotN (ta : TE) : TE := fun σ H Q => ta σ H fun x H1 => Q (.bl (!decide (x = .non))) H1
theorem RelV.none_iff {x : V} {v : Value} (r : RelV x v) : (v == Value.none) = decide (x = .non) := by
  cases x with
  | non => cases r; rfl
  | bl _ => cases r; rfl
  | int _ => obtain ⟨t, rfl⟩ := r; rfl
  | str _ => obtain ⟨t, rfl⟩ := r; rfl
  | byt _ => obtain ⟨t, rfl⟩ := r; rfl
  | flt _ => obtain ⟨t, rfl⟩ := r; rfl
  | ref _ => cases r; rfl
  | ty _ => cases r; rfl
theorem pc_isN {j pos'} (ha : PE X a ta) : PC X .Is a (.Constant .none j pos') (tIsN ta) := by
  intro pins s σ H Q I h
  refine thn (ha pins s σ H _ I h) fun v s1 ⟨x, H1, I1, r1, q1⟩ => ?_
  exact Constant_none (is_none_gen ⟨.bl _, H1, I1, by rw [r1.none_iff]; rfl, q1⟩)
theorem pc_notN {j pos'} (ha : PE X a ta) : PC X .IsNot a (.Constant .none j pos') (tNotN ta) := by
  intro pins s σ H Q I h
  refine thn (ha pins s σ H _ I h) fun v s1 ⟨x, H1, I1, r1, q1⟩ => ?_
  exact Constant_none (isnot_none_gen ⟨.bl _, H1, I1, by rw [r1.none_iff]; rfl, q1⟩)
def tB (t : TE) : TT := fun σ H Q => t σ H fun x H1 => ∃ c, x = .bl c ∧ Q c H1
theorem pt_cmp {op : CmpOp} {t : TE} (h : PC X op a b t) (h1 : behindInMarks op b = false := by first | exact nobehind _ (by decide) (by decide) | rfl) : PT X (.Compare a [op] [b] pos) (tB t) := by
  intro pins s σ H Q I hw
  refine wpAny_isTrue_Compare1 (thn (h pins s σ H _ I hw) fun v s1 h1 => thn h1 fun u s2 h2 => thn h2 fun c s3 ⟨x, H1, I1, r1, q1⟩ => ?_) h1
  obtain ⟨d, rfl, q⟩ := q1
  cases r1
  exact wpAny_truthy_bool ⟨H1, I1, q⟩
theorem pt_val {e : Expr} {t : TE} (h : PE X e t) (he : ∀ whole, isTrue e X.env whole = (do let v ← whole; standAt e.pos; holding [v] (truthy v)) := by intro _; rfl) : PT X e (tB t) := by
  intro pins s σ H Q I hw
  refine isTrue_plain (thn (h pins s σ H _ I hw) fun v s1 ⟨x, H1, I1, r1, q1⟩ => ?_) (he _)
  obtain ⟨d, rfl, q⟩ := q1
  cases r1
  exact wpAny_truthy_bool ⟨H1, I1, q⟩
variable {tA tB' : TT} {rest : List Expr}
def tAnd (t u : TT) : TT := fun σ H Q => t σ H fun c H1 => if c = true then u σ H1 Q else Q false H1
def tOr (t u : TT) : TT := fun σ H Q => t σ H fun c H1 => if c = true then Q true H1 else u σ H1 Q
def tNot (t : TT) : TT := fun σ H Q => t σ H fun c H1 => Q (!c) H1
theorem pw_and1 (ha : PT X a tA) : PW X (.BoolOp .And [a] pos) tA := by
  intro wh pins s σ H Q I h
  refine isTrue_and (thn (ha pins s σ H Q I h) fun c s1 e => ?_)
  cases c with
  | true => exact isTrue_and_nil e
  | false => exact e
theorem pw_or1 (ha : PT X a tA) : PW X (.BoolOp .Or [a] pos) tA := by
  intro wh pins s σ H Q I h
  refine isTrue_or (thn (ha pins s σ H Q I h) fun c s1 e => ?_)
  cases c with
  | false => exact isTrue_or_nil e
  | true => exact e
theorem pw_and (ha : PT X a tA) (hb : PW X (.BoolOp .And (b :: rest) pos) tB') : PW X (.BoolOp .And (a :: b :: rest) pos) (tAnd tA tB') := by
  intro wh pins s σ H Q I h
  refine isTrue_and (thn (ha pins s σ H _ I h) fun c s1 ⟨H1, I1, q1⟩ => ?_)
  cases c with
  | true => exact hb wh pins s1 σ H1 Q I1 q1
  | false => exact ⟨H1, I1, q1⟩
theorem pw_or (ha : PT X a tA) (hb : PW X (.BoolOp .Or (b :: rest) pos) tB') : PW X (.BoolOp .Or (a :: b :: rest) pos) (tOr tA tB') := by
  intro wh pins s σ H Q I h
  refine isTrue_or (thn (ha pins s σ H _ I h) fun c s1 ⟨H1, I1, q1⟩ => ?_)
  cases c with
  | true => exact ⟨H1, I1, q1⟩
  | false => exact hb wh pins s1 σ H1 Q I1 q1
theorem pt_not (ha : PT X a tA) : PT X (.UnaryOp .Not a pos) (tNot tA) := by
  intro pins s σ H Q I h
  exact isTrue_not (ha pins s σ H (fun c H1 => Q (!c) H1) I h)
def tAndV (ta tb : TE) : TE := fun σ H Q => ta σ H fun x H1 => ∃ c, x = .bl c ∧ if c = true then tb σ H1 Q else Q (.bl false) H1
theorem pe_one {op} {t : TE} (h : PE X a t) : PE X (.BoolOp op [a] pos) t := fun pins s σ H Q I hw => BoolOp_one (h pins s σ H Q I hw)
theorem pe_and (ha : PE X a ta) (hb : PE X (.BoolOp .And (b :: rest) pos) tb) : PE X (.BoolOp .And (a :: b :: rest) pos) (tAndV ta tb) := by
  intro pins s σ H Q I h
  refine BoolOp_and (thn (ha pins s σ H _ I h) fun v s1 ⟨x, H1, I1, r1, q1⟩ => ?_)
  obtain ⟨c, rfl, q1⟩ := q1
  cases r1
  refine wpAny_truthy_bool ?_
  cases c with
  | true => exact hb pins s1 σ H1 Q I1 q1
  | false => exact ⟨.bl false, H1, I1, rfl, q1⟩
def tIf (t : TT) (ta tb : TE) : TE := fun σ H Q => t σ H fun c H1 => if c = true then ta σ H1 Q else tb σ H1 Q
theorem pe_ifExp {c : Expr} (hc : PT X c tA) (ha : PE X a ta) (hb : PE X b tb) : PE X (.IfExp c a b pos) (tIf tA ta tb) := by
  intro pins s σ H Q I h
  refine wpAny_IfExp (thn (hc pins s σ H _ I h) fun d s1 ⟨H1, I1, q1⟩ => ?_)
  cases d with
  | true => exact ha pins s1 σ H1 Q I1 q1
  | false => exact hb pins s1 σ H1 Q I1 q1
end
end L2
namespace L2
open PySem PySem.Spec PyProof.Rows
def SqL (K : PySem.W.Frag) (H : Hp) (a : Addr) (xs : List V) : Prop :=
  Rd H a (.lst xs) ∨
    ∃ (o : Obj) (its : Array Value) (n : Nat), K.lookup a = some o ∧ o.cls = .type "list" ∧ o.dict = none ∧ o.data = .seq its n ∧ its.size ≤ sizeLine ∧ Vals xs its.toList
def SqT (K : PySem.W.Frag) (H : Hp) (a : Addr) (xs : List V) : Prop :=
  Rd H a (.tup xs) ∨
    ∃ (o : Obj) (its : Array Value) (n : Nat), K.lookup a = some o ∧ o.cls = .type "tuple" ∧ o.data = .seq its n ∧ its.size ≤ sizeLine ∧ Vals xs its.toList
def absV : Value → Option V
  | .none => some .non
  | .bool b => some (.bl b)
  | .int i _ => some (.int i)
  | .str x _ => some (.str x)
  | .bytes b _ => some (.byt b)
  | .float b _ => some (.flt b)
  | .ref a => some (.ref a)
  | .type n => some (.ty n)
  | _ => none
theorem RelV.abs {x : V} {u : Value} (r : RelV x u) : absV u = some x := by
  cases x with
  | non => cases r; rfl
  | bl _ => cases r; rfl
  | int _ => obtain ⟨t, rfl⟩ := r; rfl
  | str _ => obtain ⟨t, rfl⟩ := r; rfl
  | byt _ => obtain ⟨t, rfl⟩ := r; rfl
  | flt _ => obtain ⟨t, rfl⟩ := r; rfl
  | ref _ => cases r; rfl
  | ty _ => cases r; rfl
theorem RelV.inj {x y : V} {u : Value} (r : RelV x u) (q : RelV y u) : x = y := Option.some.inj (r.abs.symm.trans q.abs)
theorem Vals.inj : ∀ {xs ys : List V} {us : List Value}, Vals xs us → Vals ys us → xs = ys
  | _, _, _, .nil, .nil => rfl
  | _, _, _, .cons r t, .cons r' t' => by rw [r.inj r', Vals.inj t t']
section
variable {X : Cx} {pins : List (Addr × Obj)} {σ : St} {H : Hp} {s : Shared} {a : Addr} {xs ys : List V}
theorem SqL.of {K : PySem.W.Frag} (h : H a = some (.lst xs)) : SqL K H a xs := .inl (.inl h)
theorem SqT.of {K : PySem.W.Frag} (h : H a = some (.tup xs)) : SqT K H a xs := .inl (.inl h)
theorem Inv.list (I : Inv X pins σ H s) (h : SqL X.K H a xs) : ∃ its : List Value, Vals xs its ∧ PlainL s.heap a its.toArray ∧ xs.length ≤ sizeLine := by
  rcases h with h | ⟨o, its, n, hk, hc, hd, hs, hz, r⟩
  · obtain ⟨z, its, n, r, e⟩ := h.ok I.hok
    exact ⟨its, r, ⟨_, n, e, rfl, rfl, rfl⟩, z⟩
  · refine ⟨its.toList, r, ⟨o, n, I.kIn a o hk, hc, hd, by simpa using hs⟩, ?_⟩
    have e := r.length
    simp only [Array.length_toList] at e
    omega
theorem Inv.tuple (I : Inv X pins σ H s) (h : SqT X.K H a xs) : ∃ its : List Value, Vals xs its ∧ IsTup s.heap a its.toArray ∧ xs.length ≤ sizeLine := by
  rcases h with h | ⟨o, its, n, hk, hc, hs, hz, r⟩
  · obtain ⟨z, its, r, p⟩ := h.ok I.hok
    exact ⟨its, r, p, z⟩
  · refine ⟨its.toList, r, ⟨o, I.kIn a o hk, hc, n, by simpa using hs⟩, ?_⟩
    have e := r.length
    simp only [Array.length_toList] at e
    omega
theorem Inv.list_inj (I : Inv X pins σ H s) (h : SqL X.K H a xs) (h' : SqL X.K H a ys) : xs = ys := by
  obtain ⟨its, r, ⟨o, n, e, _, _, d⟩, _⟩ := I.list h
  obtain ⟨its', r', ⟨o', n', e', _, _, d'⟩, _⟩ := I.list h'
  rw [e] at e'; cases e'
  rw [d] at d'
  injection d' with d1 _
  have : its = its' := by simpa using congrArg Array.toList d1
  subst this
  exact r.inj r'
end
abbrev Cx.wish (X : Cx) (E : Value → Shared → Prop) : Cx := { X with xe := E }
abbrev Cx.nox (X : Cx) : Cx := X.wish fun _ _ => False
theorem Cx.Ok.wish {X : Cx} (ok : X.Ok) (E : Value → Shared → Prop) : (X.wish E).Ok :=
  ⟨ok.mod, ok.kind, ok.glob, ok.blt, ok.above, ok.inj, ok.has, ok.cab, ok.hd, ok.frames, ok.stk, ok.exf, ok.bs, ok.bsz, ok.noex, ok.exfs, ok.funs, ok.frf⟩
theorem Cx.Ok.unwish {X : Cx} {E : Value → Shared → Prop} (ok : (X.wish E).Ok) : X.Ok :=
  ⟨ok.mod, ok.kind, ok.glob, ok.blt, ok.above, ok.inj, ok.has, ok.cab, ok.hd, ok.frames, ok.stk, ok.exf, ok.bs, ok.bsz, ok.noex, ok.exfs, ok.funs, ok.frf⟩
section
variable {X : Cx} {pins : List (Addr × Obj)} {σ : St} {H : Hp} {s : Shared} {E : Value → Shared → Prop}
theorem Inv.wish (I : Inv X pins σ H s) (E : Value → Shared → Prop) : Inv (X.wish E) pins σ H s := ⟨I.ok.wish E, I.os, I.bare, I.base, I.loc, I.cell, I.free, I.freeC, I.pin, I.hok, I.len⟩
theorem Inv.unwish (I : Inv (X.wish E) pins σ H s) : Inv X pins σ H s := ⟨I.ok.unwish, I.os, I.bare, I.base, I.loc, I.cell, I.free, I.freeC, I.pin, I.hok, I.len⟩
theorem SP.unwish {D : Ends} {f : Flow} {s' : Shared} (h : SP (X.wish E) pins D f s') : SP X pins D f s' := by
  cases f with
  | next => obtain ⟨σ', H', I, q⟩ := h; exact ⟨σ', H', I.unwish, q⟩
  | brk => obtain ⟨σ', H', I, q⟩ := h; exact ⟨σ', H', I.unwish, q⟩
  | cont => obtain ⟨σ', H', I, q⟩ := h; exact ⟨σ', H', I.unwish, q⟩
  | ret u => obtain ⟨v, σ', H', I, r, q⟩ := h; exact ⟨v, σ', H', I.unwish, r, q⟩
theorem PSs.nox {st : List Stmt} {t : TS} (h : PSs X.nox st t) : PSs X st t := fun pins s σ H D I hw =>
  wpAny_mono (h pins s σ H D (I.wish _) hw) (fun _ _ q => q.unwish) fun _ _ z => False.elim z
end
section
variable {X : Cx} {st : Stmt} {rest : List Stmt} {t u : TS} {e : Expr} {te : TE} {pos : Pos}
def tNext : TS := fun D σ H => D.nx σ H
def tSeq (t u : TS) : TS := fun D σ H => t { D with nx := u D } σ H
theorem pss_nil : PSs X [] tNext := fun _ _ σ H _ I h => wpAny_execs_nil ⟨σ, H, I, h⟩
theorem pss_cons (h1 : PS X st t) (h2 : PSs X rest u) : PSs X (st :: rest) (tSeq t u) := by
  intro pins s σ H D I h
  refine wpAny_execs_cons (thn (h1 pins s σ H { D with nx := u D } I h) fun f s1 q => ?_)
  cases f with
  | next =>
    obtain ⟨σ', H', I', q⟩ := q
    exact h2 pins s1 σ' H' D I' q
  | ret v => exact q
  | brk => exact q
  | cont => exact q
theorem pss_one (h1 : PS X st t) : PSs X [st] t := by
  intro pins s σ H D I h
  refine wpAny_execs_cons (thn (h1 pins s σ H D I h) fun f s1 q => ?_)
  cases f with
  | next => exact wpAny_execs_nil q
  | ret v => exact q
  | brk => exact q
  | cont => exact q
theorem Inv.quiet {pins : List (Addr × Obj)} {σ : St} {H : Hp} {s : Shared} (I : Inv X pins σ H s) : interactive X.env = false := by simp [interactive, I.ok.kind]
def tDrop (te : TE) : TS := fun D σ H => te σ H fun _ H1 => D.nx σ H1
theorem ps_expr (he : PE X e te) (hs : swapsWith e none pos.line X.env = pure false := by rfl) : PS X (.Expr e pos) (tDrop te) := by
  intro pins s σ H D I h
  exact wpAny_Expr_any (thn (he pins s σ H _ I h) fun v s1 ⟨x, H1, I1, r1, q1⟩ => ⟨σ, H1, I1, q1⟩) I.quiet hs
def tRet (te : TE) : TS := fun D σ H => te σ H D.rt
theorem ps_ret (he : PE X e te) : PS X (.Return (some e) pos) (tRet te) := by
  intro pins s σ H D I h
  exact wpAny_Return_some (thn (he pins s σ H _ I h) fun v s1 ⟨x, H1, I1, r1, q1⟩ => ⟨x, σ, H1, I1, r1, q1⟩)
def tIfS (c : TT) (t u : TS) : TS := fun D σ H => c σ H fun b H1 => if b = true then t D σ H1 else u D σ H1
theorem ps_if {c : Expr} {a b : List Stmt} {tc : TT} (hc : PT X c tc) (ha : PSs X a t) (hb : PSs X b u) : PS X (.If c a b pos) (tIfS tc t u) := by
  intro pins s σ H D I h
  refine wpAny_If (thn (hc pins s σ H _ I h) fun d s1 ⟨H1, I1, q1⟩ => ?_)
  cases d with
  | true => exact ha pins s1 σ H1 D I1 q1
  | false => exact hb pins s1 σ H1 D I1 q1
end
abbrev TG := V → St → Hp → (St → Hp → Prop) → Prop
abbrev TGs := List V → St → Hp → (St → Hp → Prop) → Prop
def PG (X : Cx) (target : Expr) (t : TG) : Prop :=
  ∀ (pins : List (Addr × Obj)) (s : Shared) (σ : St) (H : Hp) (v : V) (u : Value) (Q : St → Hp → Prop), Inv X pins σ H s → RelV v u → t v σ H Q →
    wpAny (model X.prog X.w) X.A (assign target X.env u) (fun _ s' => ∃ σ' H', Inv X pins σ' H' s' ∧ Q σ' H') X.xe s
def PGs (X : Cx) (ts : List Expr) (t : TGs) : Prop :=
  ∀ (pins : List (Addr × Obj)) (s : Shared) (σ : St) (H : Hp) (vs : List V) (us : List Value) (Q : St → Hp → Prop), Inv X pins σ H s → Vals vs us → t vs σ H Q →
    wpAny (model X.prog X.w) X.A (assignInOrder ((assignEach ts X.env).map (·.2)) us) (fun _ s' => ∃ σ' H', Inv X pins σ' H' s' ∧ Q σ' H') X.xe s
section
variable {X : Cx} {pos : Pos}
def gName (i : Nat) : TG := fun v σ H Q => Q (σ.set i (some v)) H
theorem pg_name {i : Nat} {x : Str} (hN : X.N.Nodup) (hi : X.N[i]? = some x) (hx : Loc X.env.scope x) (hf : X.fn x = true ∨ X.env.scope.names.lookup x = some .local := by first | exact .inl rfl | exact .inr rfl | assumption) : PG X (.Name x pos) (gName i) := by
  intro pins s σ H v u Q I r h
  exact wpAny_assign_Name (store_ok I hN hi hx r (fun s' I' => ⟨_, H, I', h⟩) hf)
def gNil : TGs := fun vs σ H Q => vs = [] ∧ Q σ H
def gCons (t : TG) (u : TGs) : TGs := fun vs σ H Q => ∃ v r, vs = v :: r ∧ t v σ H fun σ' H' => u r σ' H' Q
theorem pgs_nil : PGs X [] gNil := by
  intro pins s σ H vs us Q I r h
  obtain ⟨e, h⟩ := h
  subst e
  cases r
  exact assignInOrder_nil ⟨σ, H, I, h⟩
theorem pgs_cons {e : Expr} {es : List Expr} {t : TG} {u : TGs} (h1 : PG X e t) (h2 : PGs X es u)
    (hs : (assignEach (e :: es) X.env).map (·.2) = assign e X.env :: (assignEach es X.env).map (·.2) := by rfl) : PGs X (e :: es) (gCons t u) := by
  intro pins s σ H vs us Q I r h
  obtain ⟨v, vr, e1, h⟩ := h
  subst e1
  cases r with
  | cons r rr =>
    rw [hs]
    refine assignInOrder_cons (thn (h1 pins s σ H _ _ _ I r h) fun _ s1 ⟨σ1, H1, I1, q1⟩ => ?_)
    exact h2 pins s1 σ1 H1 _ _ Q I1 rr q1
def gTup (K : PySem.W.Frag) (n : Nat) (t : TGs) : TG := fun v σ H Q => ∃ a xs, v = .ref a ∧ SqT K H a xs ∧ xs.length = n ∧ t xs σ H Q
theorem pg_tup {es : List Expr} {k : Nat} {t : TGs} {n : Nat} (hc : X.calm = true) (h : PGs X es t)
    (hn : (assignEach es X.env).length = n := by rfl) (hst : (assignEach es X.env).findIdx? (·.1) = none := by rfl) : PG X (.Tuple es k pos) (gTup X.K n t) := by
  intro pins s σ H v u Q I r hw
  obtain ⟨a, xs, e1, hq, hl, hw⟩ := hw
  subst e1
  cases r
  obtain ⟨its, rv, ht, hz⟩ := I.tuple hq
  refine assign_Tuple_tuple (I.ok.hd hc) ht (by simp [hn, ← hl, rv.length]) hst fun h' hx => ?_
  have I1 : Inv X pins σ H { s with heap := h' } := I.kept (t' := s.toks) fun b o e => hx b o (Nat.ne_of_lt (Heap.lt_size e)) e
  exact h pins _ σ H xs _ Q I1 (by simpa using rv) hw
def tAsg (te : TE) (g : TG) : TS := fun D σ H => te σ H fun x H1 => g x σ H1 D.nx
theorem ps_set {i : Nat} {x : Str} {e : Expr} {te : TE} {pos' : Pos} (hN : X.N.Nodup) (hi : X.N[i]? = some x) (hx : Loc X.env.scope x) (he : PE X e te) (hs : swapsWith e (some (.Name x pos')) pos.line X.env = pure false := by rfl) (hf : X.fn x = true ∨ X.env.scope.names.lookup x = some .local := by first | exact .inl rfl | exact .inr rfl | assumption) :
    PS X (.Assign [.Name x pos'] e pos) (tAsg te (gName i)) := by
  intro pins s σ H D I h
  refine wpAny_Assign_Name (thn (he pins s σ H _ I h) fun v s1 ⟨y, H1, I1, r1, q1⟩ => ?_) hs
  exact store_ok I1 hN hi hx r1 (fun s2 I2 => ⟨_, H1, I2, q1⟩) hf
end
section
variable {X : Cx} {pos : Pos}
def tWhile (c : TT) (tb : TS) : TS := fun D σ H => ∃ W : Nat → St → Hp → Prop, (∃ m, W m σ H) ∧ ∀ m σ H, W m σ H →
  c σ H fun b H1 => if b = true then ∃ N : St → Hp → Prop, (∀ σ' H', N σ' H' → ∃ m', m' < m ∧ W m' σ' H') ∧ tb { D with nx := N, ct := N, bk := D.nx } σ H1 else D.nx σ H1
theorem ps_while {c : Expr} {body : List Stmt} {tc : TT} {tb : TS} (hp : PassesOwn (model X.prog X.w) X.A X.env X.xe) (hc : PT X c tc) (hb : PSs X body tb) : PS X (.While c body [] pos) (tWhile tc tb) := by
  intro pins s σ H D I h
  obtain ⟨W, ⟨m0, w0⟩, turn⟩ := h
  refine wpAny_While (codeAny_whileLoop (fun n s' => ∃ σ' H', Inv X pins σ' H' s' ∧ W n σ' H') ?_ m0 ⟨σ, H, I, w0⟩)
  rintro n s1 ⟨σ1, H1, I1, w1⟩
  refine wpAny_passesOwn hp (thn (hc pins s1 σ1 H1 _ I1 (turn n σ1 H1 w1)) fun b s2 ⟨H2, I2, q2⟩ => ?_)
  cases b with
  | true =>
    obtain ⟨N, hN, q2⟩ := q2
    rw [if_pos rfl]
    refine wpAny_passesOwn hp (thn (hb pins s2 σ1 H2 _ I2 q2) fun f s3 q3 => ?_)
    cases f with
    | next =>
      obtain ⟨σ3, H3, I3, n3⟩ := q3
      obtain ⟨m', hm, w3⟩ := hN σ3 H3 n3
      exact ⟨m', hm, σ3, H3, I3, w3⟩
    | cont =>
      obtain ⟨σ3, H3, I3, n3⟩ := q3
      obtain ⟨m', hm, w3⟩ := hN σ3 H3 n3
      exact ⟨m', hm, σ3, H3, I3, w3⟩
    | brk => exact q3
    | ret v => exact q3
  | false =>
    rw [if_neg Bool.false_ne_true]
    exact wpAny_execs_nil ⟨σ1, H2, I2, q2⟩
end
structure It where
  go : Nat → Hp → Prop
  yld : Nat → Hp → V → Hp → Prop
  stop : Nat → Hp → Prop
def FpOk (X : Cx) (pins : List (Addr × Obj)) (H : Hp) (b : Addr) : Prop :=
  H b = none ∧ b ≠ X.env.locals ∧ b ∉ X.fs ∧ (b ∈ X.ex ∨ X.s_0.heap.objs.size ≤ b) ∧ (∀ x c, X.env.cells.lookup x = some c → c ≠ b) ∧ ∀ p ∈ X.pn ++ pins, p.1 ≠ b
theorem Inv.fpOk {X : Cx} {pins : List (Addr × Obj)} {σ : St} {H H' : Hp} {s : Shared} {b : Addr} (I : Inv X pins σ H s) (hb : s.heap.objs.size ≤ b) (hn : H' b = none) : FpOk X pins H' b := by
  refine ⟨hn, Nat.ne_of_gt (Nat.lt_of_lt_of_le I.lt hb), I.nofs hb, .inr (Nat.le_trans I.sz hb), fun x c e z => ?_, fun p hp z => ?_⟩
  · obtain ⟨v, q⟩ := I.cell x c e
    exact absurd (Nat.lt_of_lt_of_le q.lt (by rw [z]; exact hb)) (Nat.lt_irrefl _)
  · exact absurd (Nat.lt_of_lt_of_le (Heap.lt_size (I.pin p hp).1) (by rw [z]; exact hb)) (Nat.lt_irrefl _)
structure Turn (P : Program) (w : World) (K : PySem.W.Frag) (tg : Expr) (J : It) (fp : List Addr) (it : Addr) (tn : Nat → Heap → Prop) : Prop where
  mem : it ∈ fp
  obj : ∀ i h, tn i h → ∀ b ∈ fp, ∃ o, h.get? b = some o ∧ ∀ v, o.data ≠ .cell v
  keep : ∀ i h h', tn i h → (∀ b ∈ fp, ∀ o, h.get? b = some o → h'.get? b = some o) → tn i h'
  item : ∀ (X : Cx), X.prog = P → X.w = w → X.K = K → X.calm = true → ∀ (i : Nat) (pins : List (Addr × Obj)) (s : Shared) (σ : St) (H : Hp) (E : Value → Shared → Prop), Inv X pins σ H s → (∀ b ∈ fp, FpOk X pins H b) → tn i s.heap → J.go i H →
    wpAny (model P w) X.A (pyNext (.ref it)) (fun r s1 => ∃ u, r = some u ∧
      wpAny (model P w) X.A (letOwnedTupleGo tg (.ref it) u) (fun _ s2 => ∃ x H', Inv X pins σ H' s2 ∧ RelV x u ∧ J.yld i H x H' ∧ tn (i + 1) s2.heap ∧ ∀ b ∈ fp, H' b = none) E s1) E s
  done : ∀ (X : Cx), X.prog = P → X.w = w → X.K = K → X.calm = true → ∀ (i : Nat) (pins : List (Addr × Obj)) (s : Shared) (σ : St) (H : Hp) (E : Value → Shared → Prop), Inv X pins σ H s → (∀ b ∈ fp, FpOk X pins H b) → tn i s.heap → J.stop i H →
    wpAny (model P w) X.A (pyNext (.ref it)) (fun r s1 => r = none ∧ Inv X pins σ H s1) E s
  self : ∀ (A : Around) (i : Nat) (s : Shared) (Q : Value → Shared → Prop) (E : Value → Shared → Prop), tn i s.heap → Q (.ref it) s → wpAny (model P w) A (pyIter (.ref it)) Q E s
abbrev TI := St → Hp → (It → Hp → Prop) → Prop
def PIE (X : Cx) (pins : List (Addr × Obj)) (σ : St) (tg : Expr) (R : It → Hp → Prop) (itv : Value) (s2 : Shared) : Prop :=
  ∃ (it : Addr) (fp : List Addr) (tn : Nat → Heap → Prop) (J : It) (H' : Hp), itv = .ref it ∧ Inv X pins σ H' s2 ∧ Turn X.prog X.w X.K tg J fp it tn ∧ tn 0 s2.heap ∧ (∀ b ∈ fp, FpOk X pins H' b) ∧ R J H'
def PI (X : Cx) (tg iter : Expr) (wi : TI) : Prop :=
  ∀ (pins : List (Addr × Obj)) (s : Shared) (σ : St) (H : Hp) (R : It → Hp → Prop), Inv X pins σ H s → wi σ H R →
    wpAny (model X.prog X.w) X.A (eval iter X.env) (fun v s1 => wpAny (model X.prog X.w) X.A (pyIter v) (PIE X pins σ tg R) X.xe s1) X.xe s
theorem go_of {M : Model} {A : Around} {E : Value → Shared → Prop} {s : Shared} {tg : Expr} {it : Addr} {u : Value} {o : Obj} {n : String} {vs : Array Value} {Q : Unit → Shared → Prop} (ho : s.heap.get? it = some o) (hc : o.cls = .type n) (hd : o.data = .fields vs)
    (hn : ["enumerate", "zip", "dict_itemiterator", "dict_reverseitemiterator", "odict_iterator", "itertools.zip_longest", "itertools.pairwise"].contains n = false) (hQ : Q () s) : wpAny M A (letOwnedTupleGo tg (.ref it) u) Q E s := by
  unfold letOwnedTupleGo
  cases tg <;> first
    | exact wpAny_pure hQ
    | (cases u <;> first
        | exact wpAny_pure hQ
        | (refine wpAny_bind (wpAny_load ho ?_)
           rw [hc, hd]
           show wpAny M A (if (["enumerate", "zip", "dict_itemiterator", "dict_reverseitemiterator", "odict_iterator", "itertools.zip_longest", "itertools.pairwise"].contains n && vs[0]? == some (rawInt _)) = true then _ else _) Q E s
           rw [if_neg (by intro h; rw [hn, Bool.false_and] at h; cases h)]
           exact wpAny_pure hQ))
def Itl (K : PySem.W.Frag) (a : Addr) : It :=
  ⟨fun i H => ∃ xs x, SqL K H a xs ∧ xs[i]? = some x, fun i H x H' => H' = H ∧ ∀ xs, SqL K H a xs → xs[i]? = some x, fun i H => ∃ xs, SqL K H a xs ∧ xs.length ≤ i⟩
def Itr (lo : Int) (n : Nat) : It := ⟨fun i _ => i < n, fun i H x H' => H' = H ∧ x = .int (lo + i), fun i _ => n ≤ i⟩
theorem turn_list {P : Program} {w : World} {K : PySem.W.Frag} {tg : Expr} (a it : Addr) : Turn P w K tg (Itl K a) [it] it (fun i h => h.IsListIter it a i) where
  mem := by simp
  obj := fun i h st b hb => by
    have e : b = it := by simpa using hb
    subst e
    obtain ⟨o, e, c, d⟩ := st
    exact ⟨o, e, fun v z => by rw [d] at z; cases z⟩
  keep := fun i h h' st k => st.at fun o e => k it (by simp) o e
  item := by
    intro X hP hw hK hc i pins s σ H E I hf st hg
    subst hP hw hK
    obtain ⟨xs, x, hq, hx⟩ := hg
    obtain ⟨its, rv, p, hz⟩ := I.list hq
    obtain ⟨u, hu, ru⟩ := rv.get hx
    obtain ⟨f0, f1, f2, f3, f4, f5⟩ := hf it (by simp)
    refine wpAny_pyNext_list_item st p.isList (x := u) (by simpa using hu) fun h' st' sb => ?_
    have I1 : Inv X pins σ H { s with heap := h' } := I.turned (t' := s.toks) (fun b o hb e => (sb.2 b hb).trans e) f0 f1 f3 f4 f5
    obtain ⟨o, e, c, d⟩ := id st'
    exact ⟨u, rfl, go_of (s := { s with heap := h' }) e c d (by decide) ⟨x, H, I1, ru, ⟨rfl, fun ys hy => by rw [I.list_inj hy hq]; exact hx⟩, st', fun b hb => (hf b hb).1⟩⟩
  done := by
    intro X hP hw hK hc i pins s σ H E I hf st hg
    subst hP hw hK
    obtain ⟨xs, hq, hx⟩ := hg
    obtain ⟨its, rv, p, hz⟩ := I.list hq
    obtain ⟨f0, f1, f2, f3, f4, f5⟩ := hf it (by simp)
    have hl := rv.length
    exact wpAny_pyNext_list_end (I.ok.hd hc) st p.isList (by simp; omega) fun h' eb => ⟨rfl, I.turned (t' := s.toks) (fun b o hb e => eb b o hb e) f0 f1 f3 f4 f5⟩
  self := fun _ _ _ _ _ st h => wpAny_pyIter_listiter st h
theorem turn_range {P : Program} {w : World} {K : PySem.W.Frag} {tg : Expr} (it : Addr) (lo : Int) (n : Nat) : Turn P w K tg (Itr lo n) [it] it (fun i h => IsRangeIter h it (lo + (i : Nat) * 1) ((n : Int) - (i : Nat)) 1) where
  mem := by simp
  obj := fun i h st b hb => by
    have e : b = it := by simpa using hb
    subst e
    exact ⟨_, st, fun v z => by
      have z' : Data.fields _ = Data.cell v := z
      cases z'⟩
  keep := fun i h h' st k => k it (by simp) _ st
  item := by
    intro X hP hw hK hc i pins s σ H E I hf st hg
    subst hP hw hK
    obtain ⟨f0, f1, f2, f3, f4, f5⟩ := hf it (by simp)
    have W := Walks.range (prog := X.prog) (w := X.w) (I.ok.hd hc) it lo 1 n
    refine W.item i s _ _ hg st fun v h' tk hv st' kk => ?_
    obtain ⟨t, rfl⟩ := hv
    have I1 : Inv X pins σ H { s with heap := h', toks := tk } := I.turned (fun b o hb e => kk b o (by simpa using hb) e) f0 f1 f3 f4 f5
    refine ⟨_, rfl, go_of (s := { s with heap := h', toks := tk }) (n := "range_iterator") st' rfl rfl (by decide) ⟨.int (lo + i), H, I1, ⟨t, ?_⟩, ⟨rfl, rfl⟩, st', fun b hb => (hf b hb).1⟩⟩
    rw [Int.mul_one]
  done := by
    intro X hP hw hK hc i pins s σ H E I hf st hg
    subst hP hw hK
    obtain ⟨f0, f1, f2, f3, f4, f5⟩ := hf it (by simp)
    exact wpAny_pyNext_range_end (I.ok.hd hc) st (by have : n ≤ i := hg; omega) fun h' eb => ⟨rfl, I.turned (t' := s.toks) (fun b o hb e => eb b o hb e) f0 f1 f3 f4 f5⟩
  self := fun _ _ _ _ _ st h => wpAny_pyIter_rangeiter st h
end L2
namespace L2
open PySem PySem.Spec PyProof.Rows
section
variable {X : Cx} {tg : Expr}
def iList (K : PySem.W.Frag) (tl : TE) : TI := fun σ H R => tl σ H fun x H1 => ∃ a, x = .ref a ∧ (∃ xs, SqL K H1 a xs) ∧ R (Itl K a) H1
theorem pi_list {l : Expr} {tl : TE} (hl : PE X l tl) : PI X tg l (iList X.K tl) := by
  intro pins s σ H R I h
  refine thn (hl pins s σ H _ I h) fun v s1 ⟨x, H1, I1, r1, q1⟩ => ?_
  obtain ⟨a, e, ⟨xs, hq⟩, q⟩ := q1
  subst e
  cases r1
  obtain ⟨its, rv, p, hz⟩ := I1.list hq
  refine wpAny_pyIter_list p.isList ?_
  refine ⟨s1.heap.objs.size, [s1.heap.objs.size], _, _, H1, rfl, I1.kept (t' := s1.toks) fun b o e => Heap.get?_push_of_some _ e, turn_list a _, ⟨_, Heap.get?_push_size _ rfl, rfl, rfl⟩, fun b hb => ?_, q⟩
  have e : b = s1.heap.objs.size := by simpa using hb
  subst e
  exact I1.fpOk (Nat.le_refl _) (I1.hok.fresh (Nat.le_refl _))
theorem range_it {pins : List (Addr × Obj)} {σ : St} {H : Hp} {s : Shared} {R : It → Hp → Prop} {E : Value → Shared → Prop} {lo hi : Int} {t u v : Tok} {tk : Nat} (I : Inv X pins σ H s) (h1 : -(2 ^ 62) ≤ lo) (h2 : lo < 2 ^ 62) (h3 : -(2 ^ 62) ≤ hi) (h4 : hi < 2 ^ 62)
    (q : R (Itr lo (hi - lo).toNat) H) : wpAny (model X.prog X.w) X.A (pyIter (.ref s.heap.objs.size)) (PIE X pins σ tg R) E { s with heap := s.heap.push { cls := .type "range", data := .fields #[.int lo t, .int hi u, .int 1 v] }, toks := tk } := by
  refine wpAny_pyIter_range (IsRange.new ..) (small_one h1 h2 h3 h4) ?_
  have I1 : Inv X pins σ H { s with heap := s.heap.push { cls := .type "range", data := .fields #[.int lo t, .int hi u, .int 1 v] }, toks := tk } := I.kept fun b o e => Heap.get?_push_of_some _ e
  refine ⟨(s.heap.push { cls := .type "range", data := .fields #[.int lo t, .int hi u, .int 1 v] }).objs.size, [(s.heap.push { cls := .type "range", data := .fields #[.int lo t, .int hi u, .int 1 v] }).objs.size], _, _, H, rfl,
    I1.kept (t' := tk) fun b o e => Heap.get?_push_of_some _ e, turn_range _ lo (hi - lo).toNat, ?_, fun b hb => ?_, q⟩
  · have e1 : lo + ((0 : Nat) : Int) * 1 = lo := by simp
    have e2 : (((hi - lo).toNat : Nat) : Int) - ((0 : Nat) : Int) = Builtin.Range.rangeSize lo hi 1 := by rw [rangeSize_one]; split <;> omega
    show IsRangeIter _ _ (lo + ((0 : Nat) : Int) * 1) ((((hi - lo).toNat : Nat) : Int) - ((0 : Nat) : Int)) 1
    rw [e1, e2]
    exact Heap.get?_push_size _ rfl
  · have e : b = (s.heap.push { cls := .type "range", data := .fields #[.int lo t, .int hi u, .int 1 v] }).objs.size := by simpa using hb
    subst e
    exact I1.fpOk (Nat.le_refl _) (I1.hok.fresh (Nat.le_refl _))
def iRng1 (ta : TA) : TI := fun σ H R => ta σ H fun vs H1 => ∃ j : Int, vs = [.int j] ∧ -(2 ^ 62) ≤ j ∧ j < 2 ^ 62 ∧ R (Itr 0 j.toNat) H1
def iRng2 (ta : TA) : TI := fun σ H R => ta σ H fun vs H1 => ∃ i j : Int, vs = [.int i, .int j] ∧ (-(2 ^ 62) ≤ i ∧ i < 2 ^ 62 ∧ -(2 ^ 62) ≤ j ∧ j < 2 ^ 62) ∧ R (Itr i (j - i).toNat) H1
theorem pi_range1 {a : Expr} {ta : TA} {p pos : Pos} (hg : Gl X "range") (hm : X.mg "range" = none) (ha : PA X [a] ta) (hs : starEach [a] X.env = [(false, eval a X.env)] := by rfl) : PI X tg (.Call (.Name "range" p) [a] [] pos) (iRng1 ta) := by
  intro pins s σ H R I h
  refine Call_ (ld_blt I hg hm boot_range (PyProof.Rows.callWith_type1 (thn (ha pos pins s σ H _ I h) fun us s1 ⟨vs, H1, I1, r1, q1⟩ => ?_) hs rfl))
  obtain ⟨j, e, q1, q2, q⟩ := q1
  subst e
  cases r1 with
  | cons r rr =>
    cases rr
    obtain ⟨t, rfl⟩ := r
    exact call_range_1 (range_it I1 (by omega) (by omega) q1 q2 (by simpa using q))
theorem pi_range2 {a b : Expr} {ta : TA} {p pos : Pos} (hg : Gl X "range") (hm : X.mg "range" = none) (ha : PA X [a, b] ta) (hs : starEach [a, b] X.env = [(false, eval a X.env), (false, eval b X.env)] := by rfl) (hs2 : starEach [b] X.env = [(false, eval b X.env)] := by rfl) :
    PI X tg (.Call (.Name "range" p) [a, b] [] pos) (iRng2 ta) := by
  intro pins s σ H R I h
  refine Call_ (ld_blt I hg hm boot_range (PyProof.Rows.callWith_type1 (thn (ha pos pins s σ H _ I h) fun us s1 ⟨vs, H1, I1, r1, q1⟩ => ?_) (by rw [hs, hs2]) (by rw [hs2]; rfl)))
  obtain ⟨i, j, e, ⟨q1, q2, q3, q4⟩, q⟩ := q1
  subst e
  cases r1 with
  | cons r rr =>
    cases rr with
    | cons r' rr =>
      cases rr
      obtain ⟨t, rfl⟩ := r
      obtain ⟨t', rfl⟩ := r'
      exact call_range_2 (range_it I1 q1 q2 q3 q4 q)
def tFor (wi : TI) (g : TG) (tb : TS) : TS := fun D σ H => wi σ H fun J H1 => ∃ W : Nat → Nat → St → Hp → Prop, (∃ m, W 0 m σ H1) ∧ ∀ i m σ H, W i m σ H →
  (J.stop i H ∧ D.nx σ H) ∨ (J.go i H ∧ ∃ N : St → Hp → Prop, (∀ σ' H', N σ' H' → ∃ m', m' < m ∧ W (i + 1) m' σ' H') ∧ ∀ x H', J.yld i H x H' → g x σ H' fun σ2 H2 => tb { D with nx := N, ct := N, bk := D.nx } σ2 H2)
def pinsAt (fp : List Addr) (h : Heap) : List (Addr × Obj) := fp.filterMap fun b => (h.get? b).map fun o => (b, o)
theorem mem_pinsAt {fp : List Addr} {h : Heap} {b : Addr} {o : Obj} (hb : b ∈ fp) (e : h.get? b = some o) : (b, o) ∈ pinsAt fp h := List.mem_filterMap.mpr ⟨b, hb, by rw [e]; rfl⟩
theorem of_pinsAt {fp : List Addr} {h : Heap} {p : Addr × Obj} (hp : p ∈ pinsAt fp h) : p.1 ∈ fp ∧ h.get? p.1 = some p.2 := by
  obtain ⟨b, hb, e⟩ := List.mem_filterMap.mp hp
  cases q : h.get? b with
  | none => rw [q] at e; cases e
  | some o =>
    rw [q] at e
    have e' : (b, o) = p := Option.some.inj e
    subst e'
    exact ⟨hb, q⟩
theorem Inv.pinned {pins : List (Addr × Obj)} {σ : St} {H : Hp} {s : Shared} {fp : List Addr} (I : Inv X pins σ H s) (hf : ∀ b ∈ fp, FpOk X pins H b) (ho : ∀ b ∈ fp, ∃ o, s.heap.get? b = some o ∧ ∀ v, o.data ≠ .cell v) : Inv X (pins ++ pinsAt fp s.heap) σ H s :=
  I.pins_of fun p hp => (List.mem_append.mp hp).elim (fun z => I.pin p (List.mem_append_right _ z)) fun z => by
    obtain ⟨hb, e⟩ := of_pinsAt z
    obtain ⟨f0, f1, f2, _⟩ := hf p.1 hb
    obtain ⟨o, e', d⟩ := ho p.1 hb
    rw [e] at e'; cases e'
    exact ⟨e, f0, f1, f2, d⟩
theorem Inv.unpinned {pins pl : List (Addr × Obj)} {σ : St} {H : Hp} {s : Shared} (I : Inv X (pins ++ pl) σ H s) : Inv X pins σ H s := I.pins_of fun p hp => I.pin p (List.mem_append_right _ (List.mem_append_left _ hp))
theorem ps_for {iter : Expr} {body : List Stmt} {wi : TI} {g : TG} {tb : TS} {pos : Pos} (hp : PassesOwn (model X.prog X.w) X.A X.env X.xe) (hc : X.calm = true) (hi : PI X tg iter wi) (hg : PG X tg g) (hb : PSs X body tb)
    (hs : ∀ x, foldedSetIterable iter X.env x = pure x := by intro _; rfl) : PS X (.For tg iter body [] pos) (tFor wi g tb) := by
  intro pins s σ H D I h
  refine wpAny_For (thn (hi pins s σ H _ I h) fun v s1 h1 => thn h1 fun itv s2 h2 => ?_) hs
  obtain ⟨it, fp, tn, J, H2, e, I2, T, st2, f2, W, ⟨m0, w0⟩, turn⟩ := h2
  subst e
  have stat : ∀ {H' : Hp}, (∀ b ∈ fp, H' b = none) → ∀ b ∈ fp, FpOk X pins H' b := fun hn b hb => ⟨hn b hb, (f2 b hb).2⟩
  refine codeAny_forLoop_any (fun n s' => ∃ i σ' H', Inv X pins σ' H' s' ∧ tn i s'.heap ∧ (∀ b ∈ fp, H' b = none) ∧ W i n σ' H') ?_ m0 ⟨0, σ, H2, I2, st2, fun b hb => (f2 b hb).1, w0⟩
  rintro n s3 ⟨i, σ3, H3, I3, st3, fr3, w3⟩
  rcases turn i n σ3 H3 w3 with ⟨stop, qn⟩ | ⟨go, N, hN, step⟩
  · refine wpAny_passesOwn hp (thn (T.done X rfl rfl rfl hc i pins s3 σ3 H3 X.xe I3 (stat fr3) st3 stop) fun r s4 ⟨hr, I4⟩ => ?_)
    subst hr
    exact wpAny_execs_nil ⟨σ3, H3, I4, qn⟩
  · refine wpAny_passesOwn hp (thn (T.item X rfl rfl rfl hc i pins s3 σ3 H3 X.xe I3 (stat fr3) st3 go) fun r s4 ⟨u, hr, h4⟩ => ?_)
    subst hr
    refine wpAny_passesOwn hp (thn h4 fun _ s5 ⟨x, H5, I5, r5, y5, st5, fr5⟩ => ?_)
    have I5' := I5.pinned (stat fr5) (T.obj _ _ st5)
    refine wpAny_passesOwn hp (thn (hg _ s5 σ3 H5 x u _ I5' r5 (step x H5 y5)) fun _ s6 ⟨σ6, H6, I6, q6⟩ => ?_)
    refine wpAny_passesOwn hp (thn (hb _ s6 σ6 H6 _ I6 q6) fun f s7 q7 => ?_)
    have again : ∀ {σ7 : St} {H7 : Hp}, Inv X (pins ++ pinsAt fp s5.heap) σ7 H7 s7 → N σ7 H7 → ∃ m, m < n ∧ ∃ i σ' H', Inv X pins σ' H' s7 ∧ tn i s7.heap ∧ (∀ b ∈ fp, H' b = none) ∧ W i m σ' H' := fun {σ7 H7} I7 n7 => by
      obtain ⟨m', hm, w7⟩ := hN σ7 H7 n7
      refine ⟨m', hm, i + 1, σ7, H7, I7.unpinned, T.keep _ _ _ st5 fun b hb o e => (I7.pin (b, o) (List.mem_append_right _ (List.mem_append_right _ (mem_pinsAt hb e)))).1, fun b hb => ?_, w7⟩
      obtain ⟨o, e, d⟩ := T.obj _ _ st5 b hb
      exact (I7.pin (b, o) (List.mem_append_right _ (List.mem_append_right _ (mem_pinsAt hb e)))).2.1
    cases f with
    | next => obtain ⟨σ7, H7, I7, n7⟩ := q7; exact again I7 n7
    | cont => obtain ⟨σ7, H7, I7, n7⟩ := q7; exact again I7 n7
    | brk => obtain ⟨σ7, H7, I7, q7⟩ := q7; exact ⟨σ7, H7, I7.unpinned, q7⟩
    | ret v => obtain ⟨x7, σ7, H7, I7, r7, q7⟩ := q7; exact ⟨x7, σ7, H7, I7.unpinned, r7, q7⟩
end
theorem for_list {K : PySem.W.Frag} {a : Addr} {xs : List V} {g : TG} {tb : TS} {D : Ends} {σ : St} {H : Hp} (Pv : Nat → St → Hp → Prop) (h0 : Pv 0 σ H) (hl : ∀ i σ H, i ≤ xs.length → Pv i σ H → SqL K H a xs)
    (hs : ∀ i x σ H, xs[i]? = some x → Pv i σ H → g x σ H fun σ2 H2 => tb { D with nx := Pv (i + 1), ct := Pv (i + 1), bk := D.nx } σ2 H2) (hd : ∀ σ H, Pv xs.length σ H → D.nx σ H) :
    ∃ W : Nat → Nat → St → Hp → Prop, (∃ m, W 0 m σ H) ∧ ∀ i m σ H, W i m σ H →
      ((Itl K a).stop i H ∧ D.nx σ H) ∨ ((Itl K a).go i H ∧ ∃ N : St → Hp → Prop, (∀ σ' H', N σ' H' → ∃ m', m' < m ∧ W (i + 1) m' σ' H') ∧ ∀ x H', (Itl K a).yld i H x H' → g x σ H' fun σ2 H2 => tb { D with nx := N, ct := N, bk := D.nx } σ2 H2) := by
  refine ⟨fun i m σ H => m = xs.length - i ∧ i ≤ xs.length ∧ Pv i σ H, ⟨xs.length, by simp, Nat.zero_le _, h0⟩, ?_⟩
  rintro i m σ H ⟨rfl, hi, p⟩
  have q := hl i σ H hi p
  by_cases hlt : i < xs.length
  · refine .inr ⟨⟨xs, xs[i], q, by simp [hlt]⟩, Pv (i + 1), fun σ' H' p' => ⟨xs.length - (i + 1), by omega, rfl, hlt, p'⟩, fun x H' y => ?_⟩
    obtain ⟨e, y⟩ := y
    subst e
    exact hs i x σ _ (y xs q) p
  · have e : i = xs.length := by omega
    subst e
    exact .inl ⟨⟨xs, q, Nat.le_refl _⟩, hd σ H p⟩
theorem for_range {lo : Int} {n : Nat} {g : TG} {tb : TS} {D : Ends} {σ : St} {H : Hp} (Pv : Nat → St → Hp → Prop) (h0 : Pv 0 σ H)
    (hs : ∀ i σ H, i < n → Pv i σ H → g (.int (lo + i)) σ H fun σ2 H2 => tb { D with nx := Pv (i + 1), ct := Pv (i + 1), bk := D.nx } σ2 H2) (hd : ∀ σ H, Pv n σ H → D.nx σ H) :
    ∃ W : Nat → Nat → St → Hp → Prop, (∃ m, W 0 m σ H) ∧ ∀ i m σ H, W i m σ H →
      ((Itr lo n).stop i H ∧ D.nx σ H) ∨ ((Itr lo n).go i H ∧ ∃ N : St → Hp → Prop, (∀ σ' H', N σ' H' → ∃ m', m' < m ∧ W (i + 1) m' σ' H') ∧ ∀ x H', (Itr lo n).yld i H x H' → g x σ H' fun σ2 H2 => tb { D with nx := N, ct := N, bk := D.nx } σ2 H2) := by
  refine ⟨fun i m σ H => m = n - i ∧ i ≤ n ∧ Pv i σ H, ⟨n, by simp, Nat.zero_le _, h0⟩, ?_⟩
  rintro i m σ H ⟨rfl, hi, p⟩
  by_cases hlt : i < n
  · refine .inr ⟨hlt, Pv (i + 1), fun σ' H' p' => ⟨n - (i + 1), by omega, rfl, hlt, p'⟩, fun x H' y => ?_⟩
    obtain ⟨e, y⟩ := y
    subst e y
    exact hs i σ _ hlt p
  · have e : i = n := by omega
    subst e
    exact .inl ⟨Nat.le_refl _, hd σ H p⟩
end L2
namespace L2
open PySem PySem.Spec PyProof.Rows
abbrev R2 := V → V → Hp → VK → Prop
def OpR (X : Cx) (f : Value → Value → Sem Value) (r : R2) : Prop :=
  ∀ (pins : List (Addr × Obj)) (s : Shared) (σ : St) (H : Hp) (x y : V) (v u : Value) (Q : VK), Inv X pins σ H s → RelV x v → RelV y u → r x y H Q →
    wpAny (model X.prog X.w) X.A (f v u) (EP X pins σ Q) X.xe s
def CallR (X : Cx) (f : Value) (r : List V → Hp → VK → Prop) : Prop :=
  ∀ (pins : List (Addr × Obj)) (s : Shared) (σ : St) (H : Hp) (xs : List V) (us : List Value) (Q : VK), Inv X pins σ H s → Vals xs us → r xs H Q →
    wpAny (model X.prog X.w) X.A (call f us) (EP X pins σ Q) X.xe s
def tOp (r : R2) (ta tb : TE) : TE := fun σ H Q => ta σ H fun x H1 => tb σ H1 fun y H2 => r x y H2 Q
def rI (C : Int → Int → Prop) (g : Int → Int → V) : R2 := fun x y H Q => ∃ i j, x = .int i ∧ y = .int j ∧ C i j ∧ Q (g i j) H
def rI0 (g : Int → Int → V) : R2 := fun x y H Q => ∃ i j, x = .int i ∧ y = .int j ∧ Q (g i j) H
section
variable {X : Cx} {a b c : Expr} {ta tb tc : TE} {pos : Pos}
theorem binT (ha : PE X a ta) (hb : PE X b tb) {pins : List (Addr × Obj)} {s : Shared} {σ : St} {H : Hp} {R : V → V → Hp → Prop} (I : Inv X pins σ H s)
    (h : ta σ H fun x H1 => tb σ H1 fun y H2 => R x y H2) {Q : Value → Shared → Prop} {f : Value → Value → Sem Value}
    (hf : ∀ v u s2 x y H2, Inv X pins σ H2 s2 → RelV x v → RelV y u → R x y H2 → wpAny (model X.prog X.w) X.A (f v u) Q X.xe s2) :
    wpAny (model X.prog X.w) X.A (eval a X.env) (fun v s₁ => wpAny (model X.prog X.w) X.A (eval b X.env) (fun u s₂ => wpAny (model X.prog X.w) X.A (f v u) Q X.xe s₂) X.xe s₁) X.xe s := by
  refine thn (ha pins s σ H _ I h) fun v s1 ⟨x, H1, I1, r1, q1⟩ => ?_
  refine thn (hb pins s1 σ H1 _ I1 q1) fun u s2 ⟨y, H2, I2, r2, q2⟩ => ?_
  exact hf v u s2 x y H2 I2 r1 r2 q2
theorem pe_op {op : Operator} {r : R2} (ho : OpR X (binaryOp op) r) (ha : PE X a ta) (hb : PE X b tb) : PE X (.BinOp a op b pos) (tOp r ta tb) := by
  intro pins s σ H Q I h
  exact wpAny_BinOp (binT ha hb I h fun v u s2 x y H2 I2 rx ry q => ho pins s2 σ H2 x y v u Q I2 rx ry q)
theorem opI {f : Value → Value → Sem Value} {C : Int → Int → Prop} {g : Int → Int → Int}
    (rule : ∀ (i j : Int) (t u : Tok) (s : Shared) (Q : Value → Shared → Prop) (E : Value → Shared → Prop), C i j → Q (.int (g i j) s.toks) { s with toks := s.toks + 1 } → wpAny (model X.prog X.w) X.A (f (.int i t) (.int j u)) Q E s) :
    OpR X f (rI C fun i j => .int (g i j)) := by
  intro pins s σ H x y v u Q I rx ry h
  obtain ⟨i, j, rfl, rfl, hc, q⟩ := h
  obtain ⟨t, rfl⟩ := rx
  obtain ⟨t', rfl⟩ := ry
  exact rule i j t t' s _ _ hc ⟨.int (g i j), H, I.tok _, ⟨_, rfl⟩, q⟩
theorem opI0 {f : Value → Value → Sem Value} {g : Int → Int → Int}
    (rule : ∀ (i j : Int) (t u : Tok) (s : Shared) (Q : Value → Shared → Prop) (E : Value → Shared → Prop), Q (.int (g i j) s.toks) { s with toks := s.toks + 1 } → wpAny (model X.prog X.w) X.A (f (.int i t) (.int j u)) Q E s) :
    OpR X f (rI0 fun i j => .int (g i j)) := by
  intro pins s σ H x y v u Q I rx ry h
  obtain ⟨i, j, rfl, rfl, q⟩ := h
  obtain ⟨t, rfl⟩ := rx
  obtain ⟨t', rfl⟩ := ry
  exact rule i j t t' s _ _ ⟨.int (g i j), H, I.tok _, ⟨_, rfl⟩, q⟩
theorem opB0 {f : Value → Value → Sem Value} {g : Int → Int → Bool}
    (rule : ∀ (i j : Int) (t u : Tok) (s : Shared) (Q : Value → Shared → Prop) (E : Value → Shared → Prop), Q (.bool (g i j)) s → wpAny (model X.prog X.w) X.A (f (.int i t) (.int j u)) Q E s) :
    OpR X f (rI0 fun i j => .bl (g i j)) := by
  intro pins s σ H x y v u Q I rx ry h
  obtain ⟨i, j, rfl, rfl, q⟩ := h
  obtain ⟨t, rfl⟩ := rx
  obtain ⟨t', rfl⟩ := ry
  exact rule i j t t' s _ _ ⟨.bl (g i j), H, I, rfl, q⟩
def CDiv (i j : Int) : Prop := 0 < j ∧ j < 1073741824
def CMul (i j : Int) : Prop := (-(2 ^ 64) < i ∧ i < 2 ^ 64) ∨ (-(2 ^ 64) < j ∧ j < 2 ^ 64)
theorem CMul.ok {i j : Int} (h : CMul i j) : IntMulOk i j := by
  rcases h with ⟨h1, h2⟩ | ⟨h1, h2⟩
  · exact .of_left (intBits_le_64 h1 h2)
  · exact .of_right (intBits_le_64 h1 h2)
theorem op_add : OpR X (binaryOp .Add) (rI0 fun i j => .int (i + j)) := opI0 fun _ _ _ _ _ _ _ q => add_int q
theorem op_sub : OpR X (binaryOp .Sub) (rI0 fun i j => .int (i - j)) := opI0 fun _ _ _ _ _ _ _ q => sub_int q
theorem op_mul : OpR X (binaryOp .Mult) (rI CMul fun i j => .int (i * j)) := opI fun _ _ _ _ _ _ _ hc q => mul_int q hc.ok
theorem op_fdiv : OpR X (binaryOp .FloorDiv) (rI CDiv fun i j => .int (i / j)) := opI fun i j _ _ _ _ _ hc q => by
  have h1 : (0 : Int) < j := hc.1
  have h2 : j < 1073741824 := hc.2
  exact floordiv_int (by omega) (by rw [Int.fdiv_eq_ediv_of_nonneg i (by omega)]; exact q) (.inl (PyProof.noPylong_small (by omega)))
end
def scal : V → V → Bool
  | .non, .non => true | .non, .int _ => true | .int _, .non => true | .non, .bl _ => true | .bl _, .non => true | .non, .str _ => true | .str _, .non => true
  | .int _, .int _ => true | .bl _, .bl _ => true | .str _, .str _ => true | .byt _, .byt _ => true
  | .int _, .str _ => true | .str _, .int _ => true | .bl _, .str _ => true | .str _, .bl _ => true
  | _, _ => false
def rEq : R2 := fun x y H Q => scal x y = true ∧ Q (.bl (decide (x = y))) H
def rNe : R2 := fun x y H Q => scal x y = true ∧ Q (.bl (!decide (x = y))) H
theorem dec_int {i j : Int} : decide (V.int i = V.int j) = (i == j) := by
  rw [Bool.eq_iff_iff]
  simp
theorem dec_bl {i j : Bool} : decide (V.bl i = V.bl j) = (i == j) := by
  rw [Bool.eq_iff_iff]
  simp
theorem dec_str {i j : Str} : decide (V.str i = V.str j) = (i == j) := by
  rw [Bool.eq_iff_iff]
  simp
theorem dec_byt {i j : Array UInt8} : decide (V.byt i = V.byt j) = (i.toList == j.toList) := by
  rw [Bool.eq_iff_iff]
  cases i
  cases j
  simp
section
variable {X : Cx} {a b c : Expr} {ta tb tc : TE} {pos : Pos}
theorem fin_bl {pins : List (Addr × Obj)} {σ : St} {H : Hp} {s : Shared} {Q : VK} {k k' : Bool} (I : Inv X pins σ H s) (q : Q (.bl k) H) (e : k = k') : EP X pins σ Q (.bool k') s := by
  subst e
  exact ⟨.bl k, H, I, rfl, q⟩
theorem op_eq : OpR X (compareOp .Eq) rEq := by
  intro pins s σ H x y v u Q I rx ry h
  obtain ⟨hs, q⟩ := h
  cases x with
  | non =>
    cases rx
    cases y with
    | non => cases ry; exact PySem.EqNone.eq_none_none (fin_bl I q (by simp))
    | bl j => cases ry; exact PySem.EqNone.eq_none_bool (fin_bl I q (by simp))
    | int j => obtain ⟨t', rfl⟩ := ry; exact PySem.EqNone.eq_none_int (fin_bl I q (by simp))
    | str j => obtain ⟨t', rfl⟩ := ry; exact PySem.EqNone.eq_none_str (fin_bl I q (by simp))
    | _ => exact absurd (show false = true from hs) Bool.false_ne_true
  | bl i =>
    cases rx
    cases y with
    | non => cases ry; exact PySem.EqNone.eq_bool_none (fin_bl I q (by simp))
    | bl j => cases ry; exact eq_bool (fin_bl I q dec_bl)
    | str j => obtain ⟨t', rfl⟩ := ry; exact PySem.EqMixed.eq_bool_str (fin_bl I q (by simp))
    | _ => exact absurd (show false = true from hs) Bool.false_ne_true
  | int i =>
    obtain ⟨t, rfl⟩ := rx
    cases y with
    | non => cases ry; exact PySem.EqNone.eq_int_none (fin_bl I q (by simp))
    | int j => obtain ⟨t', rfl⟩ := ry; exact eq_int (fin_bl I q dec_int)
    | str j => obtain ⟨t', rfl⟩ := ry; exact PySem.EqMixed.eq_int_str (fin_bl I q (by simp))
    | _ => exact absurd (show false = true from hs) Bool.false_ne_true
  | str i =>
    obtain ⟨t, rfl⟩ := rx
    cases y with
    | non => cases ry; exact PySem.EqNone.eq_str_none (fin_bl I q (by simp))
    | bl j => cases ry; exact PySem.EqMixed.eq_str_bool (fin_bl I q (by simp))
    | int j => obtain ⟨t', rfl⟩ := ry; exact PySem.EqMixed.eq_str_int (fin_bl I q (by simp))
    | str j => obtain ⟨t', rfl⟩ := ry; exact eq_str (fin_bl I q dec_str)
    | _ => exact absurd (show false = true from hs) Bool.false_ne_true
  | byt i =>
    obtain ⟨t, rfl⟩ := rx
    cases y with
    | byt j => obtain ⟨t', rfl⟩ := ry; exact PySem.W.eq_bytes (fin_bl I q dec_byt)
    | _ => exact absurd (show false = true from hs) Bool.false_ne_true
  | _ => cases y <;> exact absurd (show false = true from hs) Bool.false_ne_true
theorem op_ne : OpR X (compareOp .NotEq) rNe := by
  intro pins s σ H x y v u Q I rx ry h
  obtain ⟨hs, q⟩ := h
  cases x with
  | non =>
    cases rx
    cases y with
    | non => cases ry; exact PySem.EqNone.ne_none_none (fin_bl I q (by simp))
    | bl j => cases ry; exact PySem.EqNone.ne_none_bool (fin_bl I q (by simp))
    | int j => obtain ⟨t', rfl⟩ := ry; exact PySem.EqNone.ne_none_int (fin_bl I q (by simp))
    | str j => obtain ⟨t', rfl⟩ := ry; exact PySem.EqNone.ne_none_str (fin_bl I q (by simp))
    | _ => exact absurd (show false = true from hs) Bool.false_ne_true
  | bl i =>
    cases rx
    cases y with
    | non => cases ry; exact PySem.EqNone.ne_bool_none (fin_bl I q (by simp))
    | bl j => cases ry; exact ne_bool (fin_bl I q (congrArg not dec_bl))
    | str j => obtain ⟨t', rfl⟩ := ry; exact PySem.EqMixed.ne_bool_str (fin_bl I q (by simp))
    | _ => exact absurd (show false = true from hs) Bool.false_ne_true
  | int i =>
    obtain ⟨t, rfl⟩ := rx
    cases y with
    | non => cases ry; exact PySem.EqNone.ne_int_none (fin_bl I q (by simp))
    | int j => obtain ⟨t', rfl⟩ := ry; exact ne_int (fin_bl I q (congrArg not dec_int))
    | str j => obtain ⟨t', rfl⟩ := ry; exact PySem.EqMixed.ne_int_str (fin_bl I q (by simp))
    | _ => exact absurd (show false = true from hs) Bool.false_ne_true
  | str i =>
    obtain ⟨t, rfl⟩ := rx
    cases y with
    | non => cases ry; exact PySem.EqNone.ne_str_none (fin_bl I q (by simp))
    | bl j => cases ry; exact PySem.EqMixed.ne_str_bool (fin_bl I q (by simp))
    | int j => obtain ⟨t', rfl⟩ := ry; exact PySem.EqMixed.ne_str_int (fin_bl I q (by simp))
    | str j => obtain ⟨t', rfl⟩ := ry; exact ne_str (fin_bl I q (congrArg not dec_str))
    | _ => exact absurd (show false = true from hs) Bool.false_ne_true
  | byt i =>
    obtain ⟨t, rfl⟩ := rx
    cases y with
    | byt j => obtain ⟨t', rfl⟩ := ry; exact PySem.W.ne_bytes (fin_bl I q (congrArg not dec_byt))
    | _ => exact absurd (show false = true from hs) Bool.false_ne_true
  | _ => cases y <;> exact absurd (show false = true from hs) Bool.false_ne_true
theorem op_lt : OpR X (compareOp .Lt) (rI0 fun i j => .bl (decide (i < j))) := opB0 fun _ _ _ _ _ _ _ q => lt_int q
theorem op_le : OpR X (compareOp .LtE) (rI0 fun i j => .bl (decide (i ≤ j))) := opB0 fun _ _ _ _ _ _ _ q => le_int q
theorem op_gt : OpR X (compareOp .Gt) (rI0 fun i j => .bl (decide (j < i))) := opB0 fun _ _ _ _ _ _ _ q => gt_int q
theorem nomark (b : Expr) {op : CmpOp} (h : op ≠ .In := by decide) (h2 : op ≠ .NotIn := by decide) : behindInMarks op b = false := by
  have e1 : (op == CmpOp.In) = false := by cases op <;> first | rfl | exact absurd rfl h
  have e2 : (op == CmpOp.NotIn) = false := by cases op <;> first | rfl | exact absurd rfl h2
  cases b <;> simp [behindInMarks, e1, e2]
theorem pe_cmpR {op : CmpOp} {r : R2} (ho : OpR X (compareOp op) r) (ha : PE X a ta) (hb : PE X b tb) (hm : behindInMarks op b = false) : PE X (.Compare a [op] [b] pos) (tOp r ta tb) := by
  intro pins s σ H Q I h
  exact wpAny_Compare1 (binT ha hb I h fun v u s2 x y H2 I2 rx ry q => ho pins s2 σ H2 x y v u Q I2 rx ry q) hm
def tTest (t : TE) : TT := fun σ H Q => t σ H fun x H' => ∃ k, x = .bl k ∧ Q k H'
theorem pt_cmpR {op : CmpOp} {r : R2} (ho : OpR X (compareOp op) r) (ha : PE X a ta) (hb : PE X b tb) (hm : behindInMarks op b = false) : PT X (.Compare a [op] [b] pos) (tTest (tOp r ta tb)) := by
  intro pins s σ H Q I h
  refine wpAny_isTrue_Compare1 (thn (ha pins s σ H _ I h) fun v s1 ⟨x, H1, I1, r1, q1⟩ => thn (hb pins s1 σ H1 _ I1 q1) fun u s2 ⟨y, H2, I2, r2, q2⟩ =>
    thn (ho pins s2 σ H2 x y v u _ I2 r1 r2 q2) fun c s3 ⟨z, H3, I3, r3, k, e, q3⟩ => ?_) hm
  subst e
  cases r3
  exact wpAny_truthy_bool ⟨H3, I3, q3⟩
def tChain (r r' : R2) (ta tb tc : TE) : TE := fun σ H Q => ta σ H fun x H1 => tb σ H1 fun y H2 => r x y H2 fun z H3 => ∃ k, z = .bl k ∧
  (if k = true then tc σ H3 fun w' H4 => r' y w' H4 Q else Q (.bl false) H3)
theorem pe_chain {op op' : CmpOp} {r r' : R2} (ho : OpR X (compareOp op) r) (ho' : OpR X (compareOp op') r') (ha : PE X a ta) (hb : PE X b tb) (hc : PE X c tc)
    (hm : lastMarks [op, op'] [b, c] = false := by with_unfolding_all rfl) : PE X (.Compare a [op, op'] [b, c] pos) (tChain r r' ta tb tc) := by
  intro pins s σ H Q I h
  refine Compare_chain (thn (ha pins s σ H _ I h) fun v s1 ⟨x, H1, I1, r1, q1⟩ => chain_link (thn (hb pins s1 σ H1 _ I1 q1) fun u s2 ⟨y, H2, I2, r2, q2⟩ =>
    thn (ho pins s2 σ H2 x y v u _ I2 r1 r2 q2) fun d s3 ⟨z, H3, I3, r3, k, e, q3⟩ => ?_)) hm
  subst e
  cases r3
  refine wpAny_truthy_bool ?_
  cases k with
  | false => exact ite_ff ⟨.bl false, H3, I3, rfl, q3⟩
  | true => exact ite_tt (chain_last (thn (hc pins s3 σ H3 _ I3 q3) fun w' s4 ⟨z', H4, I4, r4, q4⟩ => ho' pins s4 σ H4 y z' u w' Q I4 r2 r4 q4))
theorem pt_chain {op op' : CmpOp} {r r' : R2} (ho : OpR X (compareOp op) r) (ho' : OpR X (compareOp op') r') (ha : PE X a ta) (hb : PE X b tb) (hc : PE X c tc)
    (hm : lastMarks [op, op'] [b, c] = false := by with_unfolding_all rfl) : PT X (.Compare a [op, op'] [b, c] pos) (tTest (tChain r r' ta tb tc)) := by
  intro pins s σ H Q I h
  refine isTrue_chain (thn (ha pins s σ H _ I h) fun v s1 ⟨x, H1, I1, r1, q1⟩ => test_link (thn (hb pins s1 σ H1 _ I1 q1) fun u s2 ⟨y, H2, I2, r2, q2⟩ =>
    thn (ho pins s2 σ H2 x y v u _ I2 r1 r2 q2) fun d s3 ⟨z, H3, I3, r3, k, e, q3⟩ => ?_)) hm
  subst e
  cases r3
  refine wpAny_truthy_bool ?_
  cases k with
  | false =>
    obtain ⟨k', e', q'⟩ := q3
    cases e'
    exact ite_ff ⟨H3, I3, q'⟩
  | true =>
    refine ite_tt (test_last (thn (hc pins s3 σ H3 _ I3 q3) fun w' s4 ⟨z', H4, I4, r4, q4⟩ => thn (ho' pins s4 σ H4 y z' u w' _ I4 r2 r4 q4) fun d' s5 ⟨z2, H5, I5, r5, k2, e2, q5⟩ => ?_))
    subst e2
    cases r5
    exact wpAny_truthy_bool ⟨H5, I5, q5⟩
theorem line63 : (sizeLine : Nat) < 2 ^ 63 := by rw [sizeLine_eq]; decide
theorem vals1 {x : V} {us : List Value} (r : Vals [x] us) : ∃ u, us = [u] ∧ RelV x u := by
  cases r with
  | cons r1 r2 => cases r2; exact ⟨_, rfl, r1⟩
theorem vals2 {x y : V} {us : List Value} (r : Vals [x, y] us) : ∃ u w', us = [u, w'] ∧ RelV x u ∧ RelV y w' := by
  cases r with
  | cons r1 r2 =>
    cases r2 with
    | cons r3 r4 => cases r4; exact ⟨_, _, rfl, r1, r3⟩
theorem call_max2 (hc : X.calm = true) : CallR X (.builtin "max") (fun xs H Q => ∃ i j, xs = [.int i, .int j] ∧ Q (.int (if j > i then j else i)) H) := by
  intro pins s σ H xs us Q I r h
  obtain ⟨i, j, rfl, q⟩ := h
  obtain ⟨u, w', rfl, ⟨t, rfl⟩, ⟨t', rfl⟩⟩ := vals2 r
  refine max_two_ints (I.ok.hd hc) fun h' tk k => ⟨_, H, I.kept k, ?_, q⟩
  by_cases hj : j > i
  · rw [if_pos hj, if_pos hj]; exact ⟨_, rfl⟩
  · rw [if_neg hj, if_neg hj]; exact ⟨_, rfl⟩
theorem call_min2 (hc : X.calm = true) : CallR X (.builtin "min") (fun xs H Q => ∃ i j, xs = [.int i, .int j] ∧ Q (.int (if j < i then j else i)) H) := by
  intro pins s σ H xs us Q I r h
  obtain ⟨i, j, rfl, q⟩ := h
  obtain ⟨u, w', rfl, ⟨t, rfl⟩, ⟨t', rfl⟩⟩ := vals2 r
  refine min_two_ints (I.ok.hd hc) fun h' tk k => ⟨_, H, I.kept k, ?_, q⟩
  by_cases hj : j < i
  · rw [if_pos hj, if_pos hj]; exact ⟨_, rfl⟩
  · rw [if_neg hj, if_neg hj]; exact ⟨_, rfl⟩
end
end L2
namespace L2
open PySem PySem.Spec PyProof.Rows
structure ObjM (h : Heap) (x dx C : Addr) (mA : Str → Option Value) : Prop where
  obj : h.get? x = some (PySem.W.instObj C dx)
  ns : h.Ns1 dx mA
  ne : dx ≠ x
theorem lookIn_ns {h : Heap} {dx : Addr} {mA : Str → Option Value} (n : h.Ns1 dx mA) : ∃ od, h.get? dx = some od ∧ ∀ name, PySem.W.lookIn name od = some (mA name) := by
  obtain ⟨o, es, ep, ho, hd, hk, _, hm⟩ := n
  refine ⟨o, ho, fun name => ?_⟩
  have e := hm name
  unfold nsFind findBy at e
  rw [← Array.find?_toList] at e
  unfold PySem.W.lookIn
  rw [hd]
  dsimp only
  split
  · rename_i y q
    rw [q] at e
    exact congrArg some e
  · rename_i q
    rw [q] at e
    have a : es.toList.any (·.refKey) = false := by
      rw [List.any_eq_false]
      intro y hy
      obtain ⟨z, t, hkey⟩ := hk y (Array.mem_toList_iff.mp hy)
      simp [DictEntry.refKey, hkey]
    have a' : ¬ es.toList.any (·.refKey) = true := by rw [a]; exact Bool.false_ne_true
    rw [if_neg a']
    exact congrArg some e
theorem ObjM.look {h : Heap} {x dx C : Addr} {mA : Str → Option Value} (I : ObjM h x dx C mA) : ∃ od, PySem.W.InstAt h x (PySem.W.instObj C dx) C (some od) ∧ ∀ name, PySem.W.lookIn name od = some (mA name) :=
  let ⟨od, ho, hl⟩ := lookIn_ns I.ns
  ⟨od, ⟨I.obj, rfl, rfl, ho⟩, hl⟩
section
variable {prog : Program} {w : World} {A : Around} {E : Value → Shared → Prop} {s : Shared} {K : PySem.W.Frag} {x dx C f : Addr} {mA : Str → Option Value} {name : Str} {v : Value}
theorem get_map {expr : Bool} {Q : Value → Shared → Prop} (X : K.In s.heap) (I : ObjM s.heap x dx C mA) (hg : PySem.W.plainGet K C name = true) (hh : PySem.W.hasDictIn K C = true)
    (ha : PySem.W.findIn K (.ref C) name = some none) (hv : mA name = some v) (hv' : PySem.W.handedIn v = true) (h : Q v { s with toks := s.toks + 1 }) :
    wpAny (model prog w) A (getAttr (.ref x) name expr) Q E s := by
  obtain ⟨od, J, hl⟩ := I.look
  exact PySem.W.get_value X J (PySem.W.plainGet_of hg).1 (PySem.W.findObj_own hh ha rfl (by rw [hl, hv])) hv' h
theorem set_map {ns : List Str} {Q : Unit → Shared → Prop} (X : K.In s.heap) (I : ObjM s.heap x dx C mA)
    (hs : PySem.W.findIn K (.ref C) "__setattr__" = some (some (.builtin "object.__setattr__"))) (hp : PySem.W.plainOver K C = true) (ht : PySem.W.takerIn K C name = some none) (hh : PySem.W.hasDictIn K C = true)
    (hw : PySem.Within mA ns) (hsz : ns.length ≤ sizeLine)
    (h : ∀ h', ObjM h' x dx C (fun y => if y = name then some v else mA y) → Heap.SameBut dx s.heap h' → Q () { s with heap := h', toks := s.toks + 2 }) :
    wpAny (model prog w) A (setAttr (.ref x) name v) Q E s := by
  obtain ⟨od, J, hl⟩ := I.look
  refine PySem.W.set_plain X J hs (PySem.W.osa_open (s := { s with toks := s.toks + 1 }) (r := none) X J hp ht fun b => ?_)
  obtain ⟨cd, hc, hd'⟩ := PySem.W.any_some hh
  have hx : s.heap.get? x = some ⟨.ref C, some dx, .plain, #[]⟩ := I.obj
  refine wpAny_bind (wpAny_pure (wpAny_bind (wpAny_bind (wpAny_loadPart hx (wpAny_bind (PySem.W.Looks.here (s := { s with toks := s.toks + 1 }) (PySem.W.looks_clsIn X hc) ?_))))))
  rw [hd']
  refine wpAny_pure (a := some dx) (wpAny_bind (wpAny_pure (wpAny_bind ?_)))
  refine wpAny_nsSet1 (s := { s with toks := s.toks + 1 }) I.ns fun h' hn2 hs2 => ?_
  obtain ⟨oD, esD, epD, hoD, hdD, hcD⟩ := hn2.count (PySem.Within.cons name v hw)
  refine wpAny_bind (wpAny_lookBehind hoD (by rw [hdD]; exact pastItsLine_dict (Nat.le_trans hcD (by rw [List.length_cons]; omega))) ?_)
  exact wpAny_pure (h _ ⟨(hs2.2 _ (Ne.symm I.ne)).trans I.obj, hn2, I.ne⟩ hs2)
theorem make_map {R : Result → Shared → Prop} {vs : List Value} {kw : List (Str × Value)} (X : K.In s.heap) (hm : PySem.W.makesIn K C = true)
    (hi : PySem.W.findIn K (.ref C) "__init__" = some (some (.ref f))) (hf : PySem.W.typeIn K (.ref f) = some (.type "function"))
    (h : codeAny (model prog w) (A.under (.builtin "type.__call__" ⟨.ref C :: vs, kw⟩)) (.call (.ref f) ⟨.ref (s.heap.objs.size + 1) :: vs, kw⟩) (PySem.W.InitBack (s.heap.objs.size + 1) R)
      { s with heap := (s.heap.push PySem.W.emptyDict).push (PySem.W.instObj C s.heap.objs.size) }) :
    codeAny (model prog w) A (.call (.ref C) ⟨vs, kw⟩) R s := by
  obtain ⟨hh, g, d, t, os⟩ := s
  exact PySem.W.make_core (PySem.W.makes_of X hm) (PySem.W.looks_findIn X hi) (fun self => PySem.W.bind_fn X self hf) (.inl rfl) h
end
def putF (f : Str) (v : V) : List (Str × V) → List (Str × V)
  | [] => [(f, v)]
  | (g, x) :: r => if g = f then (g, v) :: r else (g, x) :: putF f v r
theorem lookup_putF (f g : Str) (v : V) : ∀ fs : List (Str × V), (putF f v fs).lookup g = if g = f then some v else fs.lookup g
  | [] => by
    show List.lookup g [(f, v)] = _
    by_cases h : g = f
    · have hb : (g == f) = true := beq_iff_eq.mpr h
      simp only [List.lookup, hb, if_pos h]
    · have hb : (g == f) = false := beq_eq_false_iff_ne.mpr h
      simp only [List.lookup, hb, if_neg h]
  | (k, x) :: r => by
    have ih := lookup_putF f g v r
    rw [show putF f v ((k, x) :: r) = (if k = f then (k, v) :: r else (k, x) :: putF f v r) from rfl]
    by_cases hk : k = f
    · rw [if_pos hk]
      by_cases h : g = k
      · have hb : (g == k) = true := beq_iff_eq.mpr h
        simp only [List.lookup, hb, if_pos (h.trans hk)]
      · have hb : (g == k) = false := beq_eq_false_iff_ne.mpr h
        simp only [List.lookup, hb, if_neg (fun e : g = f => h (e.trans hk.symm))]
    · rw [if_neg hk]
      by_cases h : g = k
      · have hb : (g == k) = true := beq_iff_eq.mpr h
        simp only [List.lookup, hb, if_neg (fun e : g = f => hk (h.symm.trans e))]
      · have hb : (g == k) = false := beq_eq_false_iff_ne.mpr h
        simp only [List.lookup, hb]
        exact ih
theorem keys_putF (f : Str) (v : V) : ∀ fs : List (Str × V), f ∈ (putF f v fs).map (·.1) ∧ ∀ g, g ∈ fs.map (·.1) → g ∈ (putF f v fs).map (·.1)
  | [] => ⟨by simp [putF], fun g h => by simp at h⟩
  | (k, x) :: r => by
    obtain ⟨i1, i2⟩ := keys_putF f v r
    rw [show putF f v ((k, x) :: r) = (if k = f then (k, v) :: r else (k, x) :: putF f v r) from rfl]
    by_cases hk : k = f
    · rw [if_pos hk]
      subst hk
      exact ⟨by simp, fun g h => by simpa using h⟩
    · rw [if_neg hk]
      refine ⟨?_, fun g h => ?_⟩
      · rw [List.map_cons]
        exact List.mem_cons_of_mem _ i1
      · rw [List.map_cons] at h ⊢
        rcases List.mem_cons.mp h with e | e
        · exact List.mem_cons.mpr (.inl e)
        · exact List.mem_cons_of_mem _ (i2 g e)
theorem length_putF (f : Str) (v : V) : ∀ fs : List (Str × V), (putF f v fs).length ≤ fs.length + 1
  | [] => by simp [putF]
  | (k, x) :: r => by
    have ih := length_putF f v r
    rw [show putF f v ((k, x) :: r) = (if k = f then (k, v) :: r else (k, x) :: putF f v r) from rfl]
    by_cases hk : k = f
    · rw [if_pos hk, List.length_cons, List.length_cons]; omega
    · rw [if_neg hk, List.length_cons, List.length_cons]; omega
theorem RelO.some_of {v : V} {o : Option Value} (r : RelO (some v) o) : ∃ u, o = some u ∧ RelV v u := by
  cases o with
  | none => exact (show False from r).elim
  | some u => exact ⟨u, rfl, r⟩
theorem handed_of {v : V} {u : Value} (r : RelV v u) : PySem.W.handedIn u = true := by
  cases v with
  | non => cases (show u = Value.none from r); rfl
  | bl b => cases (show u = Value.bool b from r); rfl
  | int i => obtain ⟨t, e⟩ := (show ∃ t, u = Value.int i t from r); cases e; rfl
  | str x => obtain ⟨t, e⟩ := (show ∃ t, u = Value.str x t from r); cases e; rfl
  | byt b => obtain ⟨t, e⟩ := (show ∃ t, u = Value.bytes b t from r); cases e; rfl
  | flt b => obtain ⟨t, e⟩ := (show ∃ t, u = Value.float b t from r); cases e; rfl
  | ref a => cases (show u = Value.ref a from r); rfl
  | ty n => cases (show u = Value.type n from r); rfl
section
variable {P : Program} {w : World} {H H' : Hp} {h h' : Heap} {a C dx : Addr} {fs fs' : List (Str × V)}
theorem ins_get (hok : HOk P w H h) (e : H a = some (.ins C dx fs)) : ∃ mA, ObjM h a dx C mA ∧ (∀ f, RelO (fs.lookup f) (mA f)) ∧ PySem.Within mA (fs.map (·.1)) ∧ fs.length ≤ 1000 ∧ H dx = some (.own a) := by
  obtain ⟨d, z, ne, ob, mA, n, r, q⟩ := (show ObjOk P w H h a (.ins C dx fs) from hok a _ e)
  exact ⟨mA, ⟨ob, n, ne⟩, r, q, z, d⟩
end
structure Cls (K : PySem.W.Frag) (C : Addr) : Prop where
  pg : PySem.W.plainGet K C Str.empty = true
  hd : PySem.W.hasDictIn K C = true
  po : PySem.W.plainOver K C = true
  sa : PySem.W.findIn K (.ref C) "__setattr__" = some (some (.builtin "object.__setattr__"))
theorem Cls.get {K : PySem.W.Frag} {C : Addr} (c : Cls K C) (f : Str) : PySem.W.plainGet K C f = true := c.pg
def NoAttr (K : PySem.W.Frag) (C : Addr) (f : Str) : Prop := PySem.W.findIn K (.ref C) f = some none
theorem NoAttr.taker {K : PySem.W.Frag} {C : Addr} {f : Str} (n : NoAttr K C f) : PySem.W.takerIn K C f = some none := by
  unfold PySem.W.takerIn
  rw [show PySem.W.findIn K (.ref C) f = some none from n]
  rfl
section
variable {X : Cx} {pins : List (Addr × Obj)} {σ : St} {H : Hp} {s : Shared} {a C dx : Addr} {fs : List (Str × V)} {f : Str} {v : V} {A : Around} {E : Value → Shared → Prop}
theorem getattr_ok {b : Bool} {Q : Value → Shared → Prop} (I : Inv X pins σ H s) (e : H a = some (.ins C dx fs)) (c : Cls X.K C) (n : NoAttr X.K C f) (l : fs.lookup f = some v)
    (h : ∀ u s', Inv X pins σ H s' → RelV v u → Q u s') : wpAny (model X.prog X.w) A (getAttr (.ref a) f b) Q E s := by
  obtain ⟨mA, O, r, _, _, _⟩ := ins_get I.hok e
  obtain ⟨u, hu, ru⟩ := RelO.some_of (v := v) (o := mA f) (by rw [← l]; exact r f)
  exact get_map I.kIn O (c.get f) c.hd n hu (handed_of ru) (h u _ (I.tok _) ru)
theorem setattr_ok {y : V} {u : Value} {Q : Unit → Shared → Prop} (I : Inv X pins σ H s) (e : H a = some (.ins C dx fs)) (c : Cls X.K C) (n : NoAttr X.K C f) (hl : fs.length < 1000) (ry : RelV y u)
    (h : ∀ s', Inv X pins σ (upd H a (.ins C dx (putF f y fs))) s' → Q () s') : wpAny (model X.prog X.w) A (setAttr (.ref a) f u) Q E s := by
  obtain ⟨mA, O, r, wi, _, ho⟩ := ins_get I.hok e
  have hz : (fs.map (·.1)).length ≤ sizeLine := by rw [List.length_map, sizeLine_eq]; omega
  refine set_map I.kIn O c.sa c.po n.taker c.hd wi hz fun h' O' sb => h _ ?_
  have hd : ∃ o, h'.get? dx = some o := let ⟨o, _, _, e', _⟩ := O'.ns; ⟨o, e'⟩
  refine I.write (x := a) (e := dx) (by rw [e]; exact True.intro) (.inr ho) (fun b q hb z => (sb.2 b hb).trans z) hd ?_
  refine ⟨by rw [upd_ne O.ne]; exact ho, ?_, O.ne, O'.obj, _, O'.ns, fun g => ?_, fun g hg => ?_⟩
  · have := length_putF f y fs; omega
  · show RelO ((putF f y fs).lookup g) (if g = f then some u else mA g)
    rw [lookup_putF]
    by_cases q : g = f
    · rw [if_pos q, if_pos q]; exact ry
    · rw [if_neg q, if_neg q]; exact r g
  · by_cases q : g = f
    · rw [q]; exact (keys_putF f y fs).1
    · refine (keys_putF f y fs).2 g (wi g fun z => hg ?_)
      show (if g = f then some u else mA g) = none
      rw [if_neg q]; exact z
theorem Inv.made (I : Inv X pins σ H s) : Inv X pins σ (upd (upd H s.heap.objs.size (.own (s.heap.objs.size + 1))) (s.heap.objs.size + 1) (.ins C s.heap.objs.size []))
    { s with heap := (s.heap.push PySem.W.emptyDict).push (PySem.W.instObj C s.heap.objs.size) } := by
  have e1 : (s.heap.push PySem.W.emptyDict).get? s.heap.objs.size = some PySem.W.emptyDict := Heap.get?_push_size s.heap rfl
  have e2 : ((s.heap.push PySem.W.emptyDict).push (PySem.W.instObj C s.heap.objs.size)).get? (s.heap.objs.size + 1) = some (PySem.W.instObj C s.heap.objs.size) := by
    have := Heap.get?_push_size (s.heap.push PySem.W.emptyDict) (o := PySem.W.instObj C s.heap.objs.size) rfl
    rwa [Heap.size_push] at this
  have e3 : (s.heap.push PySem.W.emptyDict).Ns s.heap.objs.size (fun _ => none) := ⟨PySem.W.emptyDict, #[], _, e1, rfl, (fun e he => absurd he (by simp)), fun _ => rfl⟩
  have I1 := I.laid (a := s.heap.objs.size) (o := .own (s.heap.objs.size + 1)) (h' := s.heap.push PySem.W.emptyDict) (t' := s.toks) (fun b u q => Heap.get?_push_of_some _ q) (Nat.le_refl _) ⟨_, e1⟩
  refine I1.laid (a := s.heap.objs.size + 1) (o := .ins C s.heap.objs.size []) (t' := s.toks) (fun b u q => Heap.get?_push_of_some _ q) (Nat.le_of_eq (Heap.size_push _ _)) ?_
  have ne : s.heap.objs.size ≠ s.heap.objs.size + 1 := Nat.ne_of_lt (Nat.lt_succ_self _)
  refine ⟨by rw [upd_ne ne, upd_same], Nat.zero_le _, ne, e2, fun _ => none, (Heap.Ns1.of_empty e3).at fun o q => Heap.get?_push_of_some _ q, fun _ => True.intro, fun y hy => absurd rfl hy⟩
theorem attr_of {prog : Program} {w : World} {env : Env} {e : Expr} {f : Str} {pos : Pos} {s : Shared} {Q : Value → Shared → Prop} (hb : attributeBase e f env (eval e env) = eval e env)
    (h : wpAny (model prog w) A (eval e env) (fun o s₁ => wpAny (model prog w) A (getAttr o f true) Q E s₁) E s) : wpAny (model prog w) A (eval (.Attribute e f pos) env) Q E s :=
  Attribute_any_ h (by rw [arm_eval_Attribute, hb])
end
def tFld (K : PySem.W.Frag) (ta : TE) (f : Str) : TE := fun σ H Q => ta σ H fun x H1 => ∃ a C dx fs v, x = .ref a ∧ H1 a = some (.ins C dx fs) ∧ Cls K C ∧ NoAttr K C f ∧ fs.lookup f = some v ∧ Q v H1
def sFld (K : PySem.W.Frag) (ta tv : TE) (f : Str) : TS := fun D σ H => tv σ H fun y H1 => ta σ H1 fun x H2 => ∃ a C dx fs, x = .ref a ∧ H2 a = some (.ins C dx fs) ∧ Cls K C ∧ NoAttr K C f ∧ fs.length < 1000 ∧
  D.nx σ (upd H2 a (.ins C dx (putF f y fs)))
def InOp (X : Cx) (op : Operator) (rd : V → V → Hp → VK → Prop) : Prop :=
  ∀ (pins : List (Addr × Obj)) (s : Shared) (σ : St) (H : Hp) (x y : V) (u v : Value) (Q : VK), Inv X pins σ H s → RelV x u → RelV y v → rd x y H Q → wpAny (model X.prog X.w) X.A (inplaceOp op u v) (EP X pins σ Q) X.xe s
def sFldAug (K : PySem.W.Frag) (ta tv : TE) (rd : V → V → Hp → VK → Prop) (f : Str) : TS := fun D σ H => ta σ H fun x H1 => ∃ a C dx fs v, x = .ref a ∧ H1 a = some (.ins C dx fs) ∧ Cls K C ∧ NoAttr K C f ∧ fs.lookup f = some v ∧
  tv σ H1 fun y H2 => rd v y H2 fun z H3 => ∃ dx' fs', H3 a = some (.ins C dx' fs') ∧ fs'.length < 1000 ∧ D.nx σ (upd H3 a (.ins C dx' (putF f z fs')))
section
variable {X : Cx} {o e value : Expr} {f : Str} {pos pos' tpos : Pos} {ta tv : TE}
theorem pe_fld (he : PE X e ta) (hb : attributeBase e f X.env (eval e X.env) = eval e X.env) : PE X (.Attribute e f pos) (tFld X.K ta f) := by
  intro pins s σ H Q I h
  refine attr_of hb (thn (he pins s σ H _ I h) fun u s1 ⟨x, H1, I1, rx, a, C, dx, fs, v, ex, ea, c, n, l, q⟩ => ?_)
  subst ex
  obtain rfl : u = Value.ref a := rx
  exact getattr_ok I1 ea c n l fun u' s2 I2 ru => ⟨v, H1, I2, ru, q⟩
theorem ps_fld (ha : PE X o ta) (hv : PE X value tv) (hs : swapsWith value (some (.Attribute o f pos')) pos.line X.env = pure false) : PS X (.Assign [.Attribute o f pos'] value pos) (sFld X.K ta tv f) := by
  intro pins s σ H D I h
  refine plainObj_wpAny_Assign_Attribute (thn (hv pins s σ H _ I h) fun u s1 ⟨y, H1, I1, ry, q⟩ => thn (ha pins s1 σ H1 _ I1 q) fun ov s2 ⟨x, H2, I2, rx, a, C, dx, fs, ex, ea, c, n, l, q2⟩ => ?_) hs
  subst ex
  obtain rfl : ov = Value.ref a := rx
  exact setattr_ok I2 ea c n l ry fun s3 I3 => ⟨σ, _, I3, q2⟩
theorem ps_fldaug {op : Operator} {rd : V → V → Hp → VK → Prop} (ha : PE X o ta) (hv : PE X value tv) (hop : InOp X op rd) : PS X (.AugAssign (.Attribute o f tpos) op value pos) (sFldAug X.K ta tv rd f) := by
  intro pins s σ H D I h
  refine wpAny_AugAssign_AttributeAny (thn (ha pins s σ H _ I h) fun ov s1 ⟨x, H1, I1, rx, a, C, dx, fs, v, ex, ea, c, n, l, q⟩ => ?_)
  subst ex
  obtain rfl : ov = Value.ref a := rx
  refine getattr_ok I1 ea c n l fun u s2 I2 ru => thn (hv pins s2 σ H1 _ I2 q) fun w3 s3 ⟨y, H2, I3, ry, q3⟩ => thn (hop pins s3 σ H2 v y u w3 _ I3 ru ry q3) fun w4 s4 ⟨z, H3, I4, rz, dx', fs', ea', l', q4⟩ => ?_
  exact setattr_ok I4 ea' c n l' rz fun s5 I5 => ⟨σ, _, I5, q4⟩
def rAdd : V → V → Hp → VK → Prop := fun x y H Q => ∃ i j, x = .int i ∧ y = .int j ∧ Q (.int (i + j)) H
def rSub : V → V → Hp → VK → Prop := fun x y H Q => ∃ i j, x = .int i ∧ y = .int j ∧ Q (.int (i - j)) H
theorem in_add : InOp X .Add rAdd := by
  rintro pins s σ H x y u v Q I rx ry ⟨i, j, rfl, rfl, q⟩
  obtain ⟨t, rfl⟩ := (show ∃ t, u = Value.int i t from rx)
  obtain ⟨t', rfl⟩ := (show ∃ t', v = Value.int j t' from ry)
  exact PyProof.Rows.iadd_int ⟨.int (i + j), H, I.tok _, ⟨_, rfl⟩, q⟩
theorem in_sub : InOp X .Sub rSub := by
  rintro pins s σ H x y u v Q I rx ry ⟨i, j, rfl, rfl, q⟩
  obtain ⟨t, rfl⟩ := (show ∃ t, u = Value.int i t from rx)
  obtain ⟨t', rfl⟩ := (show ∃ t', v = Value.int j t' from ry)
  exact PyProof.Rows.isub_int ⟨.int (i - j), H, I.tok _, ⟨_, rfl⟩, q⟩
end
section
variable {X : Cx} {pins : List (Addr × Obj)} {σ : St} {H : Hp} {s : Shared} {A : Around} {E : Value → Shared → Prop} {Q : Value → Shared → Prop} {c : Value} {b : Bool}
end
end L2
namespace L2
open PySem PySem.Spec PyProof.Rows
structure Room (k : Nat) (A : Around) : Prop where
  hd : A.handled = none
  dp : A.depth + 3 * k + 5 < recursionLimit
  un : A.units + 16 * k + 200 < cLine
theorem Room.mono {j k : Nat} {A : Around} (r : Room k A) (h : j ≤ k) : Room j A := ⟨r.hd, by have := r.dp; omega, by have := r.un; omega⟩
theorem Room.deeper {k : Nat} {A : Around} (r : Room (k + 1) A) (env : Env) : Room k (A.deeper env) :=
  ⟨r.hd, by have := r.dp; show A.depth + 1 + 3 * k + 5 < _; omega, by have := r.un; show A.units + 3 + 16 * k + 200 < _; omega⟩
theorem make_depth {A : Around} {C : Addr} {us : List Value} {kw : List (Str × Value)} : (A.under (.builtin "type.__call__" ⟨.ref C :: us, kw⟩)).depth = A.depth + 1 := by
  first | rfl | simp [Around.under, Code.weight, Code.isCreation, Code.isGuard, Code.isCaller, Code.frames, Code.isFrame, guardIds]
theorem make_units {A : Around} {C : Addr} {us : List Value} {kw : List (Str × Value)} : (A.under (.builtin "type.__call__" ⟨.ref C :: us, kw⟩)).units = A.units + 1 := by
  first | rfl | simp [Around.under, Code.cUnits, Code.frames, Code.isFrame]
theorem Room.make {k : Nat} {A : Around} (r : Room (k + 1) A) (C : Addr) (us : List Value) (kw : List (Str × Value)) : Room k (A.under (.builtin "type.__call__" ⟨.ref C :: us, kw⟩)) :=
  ⟨r.hd, by have := r.dp; rw [make_depth]; omega, by have := r.un; rw [make_units]; omega⟩
theorem Room.depth {k : Nat} {A : Around} (r : Room k A) : A.depth < recursionLimit := by have := r.dp; omega
theorem Room.units {k : Nat} {A : Around} (r : Room k A) : A.units + 64 < cLine := by have := r.un; omega
def tNil : TA := fun _ H Q => Q [] H
def tCons (ta : TE) (tr : TA) : TA := fun σ H Q => ta σ H fun x H1 => tr σ H1 fun xs H2 => Q (x :: xs) H2
section
variable {X : Cx} {e : Expr} {es : List Expr} {te : TE} {t : TA} {pos : Pos}
theorem pa_nil : PA X [] tNil := fun _ _ _ _ H Q I h => Calls.spliced_nil ⟨[], H, I, .nil, h⟩
theorem pa_cons (ha : PE X e te) (hr : PA X es t) (hs : starEach (e :: es) X.env = (false, eval e X.env) :: starEach es X.env := by rfl) : PA X (e :: es) (tCons te t) := by
  intro pos pins s σ H Q I h
  rw [hs]
  show wpAny _ _ (spliced ((false, eval e X.env) :: backTo pos (starEach es X.env))) _ _ s
  refine Calls.spliced_cons (thn (ha pins s σ H _ I h) fun u s1 ⟨x, H1, I1, r1, q1⟩ => ?_)
  exact thn (hr pos pins s1 σ H1 _ I1 q1) fun us s2 ⟨xs, H2, I2, r2, q2⟩ => ⟨x :: xs, H2, I2, .cons r1 r2, q2⟩
def tTup (t : TA) : TE := fun σ H Q => t σ H fun xs H1 => xs.length ≤ sizeLine ∧ ∀ p, H1 p = none → Q (.ref p) (upd H1 p (.tup xs))
def tLst (t : TA) : TE := fun σ H Q => t σ H fun xs H1 => xs.length ≤ sizeLine ∧ ∀ p, H1 p = none → Q (.ref p) (upd H1 p (.lst xs))
theorem pe_tup {x1} (h : PA X es t) : PE X (.Tuple es x1 pos) (tTup t) := by
  intro pins s σ H Q I hq
  refine wpAny_Tuple_spliced (thn (h pos pins s σ H _ I hq) fun us s1 ⟨xs, H1, I1, r, z, q⟩ => ⟨by rw [← r.length]; exact z, ?_⟩)
  have hf : H1 s1.heap.objs.size = none := I1.hok.fresh (Nat.le_refl _)
  refine ⟨.ref s1.heap.objs.size, upd H1 s1.heap.objs.size (.tup xs), I1.laid (t' := s1.toks) (fun b u e => Heap.get?_push_of_some _ e) (Nat.le_refl _) ?_, rfl, q _ hf⟩
  exact ⟨z, us, r, ⟨_, Heap.get?_push_size _ rfl, rfl, _, rfl⟩⟩
theorem pe_lst (h : PA X es t) : PE X (.List es pos) (tLst t) := by
  intro pins s σ H Q I hq
  refine wpAny_List_spliced (thn (h pos pins s σ H _ I hq) fun us s1 ⟨xs, H1, I1, r, z, q⟩ => ⟨by rw [← r.length]; exact z, ?_⟩)
  have hf : H1 s1.heap.objs.size = none := I1.hok.fresh (Nat.le_refl _)
  refine ⟨.ref s1.heap.objs.size, upd H1 s1.heap.objs.size (.lst xs), I1.laid (t' := s1.toks) (fun b u e => Heap.get?_push_of_some _ e) (Nat.le_refl _) ?_, rfl, q _ hf⟩
  exact ⟨z, us, 0, r, Heap.get?_push_size _ rfl⟩
end
abbrev Sp := List V → Hp → VK → XK → Prop
abbrev CXT := List Env → Hp → Shared → XK → Value → Shared → Prop
structure Env0 (P : Program) (w : World) (K : PySem.W.Frag) (mg : Str → Option Value) (base : Heap) (A : Around) (outer : List Env) (s : Shared) (H : Hp) : Prop where
  frames : A.frames = some outer
  mod : Mod K mg base
  bs : ∀ b o, base.get? b = some o → s.heap.get? b = some o ∧ H b = none
  bsz : base.objs.size ≤ s.heap.objs.size
  funs : s.heap.FunFrames base outer
  frf : ∀ b ∈ frs outer, H b = none
  hok : HOk P w H s.heap
  bare : AllBare s.gens
def CE (outer : List Env) (P : Program) (w : World) (H : Hp) (s : Shared) (Q : VK) (u : Value) (s' : Shared) : Prop :=
  ∃ v H', s'.os = s.os ∧ AllBare s'.gens ∧ Un (frs outer) [] H H' s.heap s'.heap ∧ HOk P w H' s'.heap ∧ RelV v u ∧ Q v H'
def CR (CX : CXT) (outer : List Env) (P : Program) (w : World) (H : Hp) (s : Shared) (Q : VK) (E : XK) (r : Result) (s' : Shared) : Prop :=
  match r with
  | .ok (.ret u) => CE outer P w H s Q u s'
  | .ok _ => False
  | .error e => CX outer H s E e s'
structure FnOk (P : Program) (w : World) (K : PySem.W.Frag) (mg : Str → Option Value) (base : Heap) (CX : CXT) (k : Nat) (f : Addr) (fd : FuncData) (ps : List Str) (sp : Sp) : Prop where
  len : ∀ vs H Q E, sp vs H Q E → vs.length = ps.length
  run : ∀ (A : Around) (outer : List Env) (s : Shared) (H : Hp) (args : Args) (us : List Value) (vs : List V) (Q : VK) (E : XK), Room k A → Env0 P w K mg base A outer s H → BindsTo s fd args (ps.zip us) → Vals vs us → sp vs H Q E →
    codeAny (model P w) A (.call (.ref f) args) (CR CX outer P w H s Q E) s
theorem Env0.make {P : Program} {w : World} {K : PySem.W.Frag} {mg : Str → Option Value} {base : Heap} {A : Around} {outer : List Env} {s : Shared} {H : Hp} (e : Env0 P w K mg base A outer s H) (C : Addr) (us : List Value) (kw : List (Str × Value)) :
    Env0 P w K mg base (A.under (.builtin "type.__call__" ⟨.ref C :: us, kw⟩)) outer s H := ⟨by first | exact e.frames | (simpa [Around.under, Code.envs, Code.isFrame, pushEnvs] using e.frames), e.mod, e.bs, e.bsz, e.funs, e.frf, e.hok, e.bare⟩
section
variable {X : Cx} {pins : List (Addr × Obj)} {σ : St} {H : Hp} {s s' : Shared}
theorem Inv.env0 (I : Inv X pins σ H s) : Env0 X.prog X.w X.K X.mg X.base X.A X.stack s H :=
  ⟨I.ok.frames, I.ok.mod, I.bs, Nat.le_trans I.ok.bsz I.sz, I.stack, I.stkFree, I.hok, I.bare⟩
theorem Inv.after {Q : VK} {u : Value} (I : Inv X pins σ H s) (h : CE X.stack X.prog X.w H s Q u s') : EP X pins σ Q u s' := by
  obtain ⟨v, H', os, bare, un, hok, r, q⟩ := h
  obtain ⟨hh, g, d, t, os'⟩ := s'
  obtain rfl : os' = s.os := os
  exact ⟨v, H', I.call (h' := hh) (g' := g) (d' := d) (t' := t) (ch := []) un hok bare (fun b z => absurd z (by simp)), r, q⟩
end
def tCall (sp : Sp) (dvs : List V) (E : XK) (t : TA) : TE := fun σ H Q => t σ H fun vs H1 => sp (vs ++ dvs) H1 Q E
def tMake (C : Addr) (sp : Sp) (dvs : List V) (E : XK) (t : TA) : TE := fun σ H Q => t σ H fun vs H1 => ∀ x dx, H1 x = none → H1 dx = none → dx ≠ x →
  sp (.ref x :: (vs ++ dvs)) (upd (upd H1 dx (.own x)) x (.ins C dx [])) (fun v H2 => v = .non ∧ Q (.ref x) H2) E
def Binds (K : PySem.W.Frag) (fd : FuncData) (ps : List Str) (ds : List Value) : Prop :=
  ∀ (s : Shared) (us : List Value), K.In s.heap → (us ++ ds).length = ps.length → BindsTo s fd ⟨us, []⟩ (ps.zip (us ++ ds))
theorem Binds.all {K : PySem.W.Frag} {fd : FuncData} {ps : List Str} (h : ∀ us : List Value, us.length = ps.length → bindArgs fd ⟨us, []⟩ = pure (ps.zip us)) : Binds K fd ps [] := fun s us _ hl => by
  rw [List.append_nil] at hl ⊢
  exact .of_eq (h us hl)
def Passes (CX : CXT) (X : Cx) (E : XK) : Prop := ∀ (pins : List (Addr × Obj)) (σ : St) (H : Hp) (s : Shared) (e : Value) (s' : Shared), Inv X pins σ H s → CX X.stack H s E e s' → X.xe e s'
section
variable {X : Cx} {CX : CXT} {k : Nat} {f C : Addr} {fd : FuncData} {ps : List Str} {sp : Sp} {dvs : List V} {ds : List Value} {E : XK} {x m : Str} {p pos apos : Pos} {e o : Expr} {es : List Expr} {ta : TE} {t : TA}
theorem run_fn {pins : List (Addr × Obj)} {σ : St} {H : Hp} {s : Shared} {Q : VK} {us : List Value} {vs : List V} (F : FnOk X.prog X.w X.K X.mg X.base CX k f fd ps sp) (hr : Room k X.A) (hb : Binds X.K fd ps ds) (hd : Vals dvs ds) (hx : Passes CX X E)
    (I : Inv X pins σ H s) (r : Vals vs us) (h : sp (vs ++ dvs) H Q E) : wpAny (model X.prog X.w) X.A (call (.ref f) us) (EP X pins σ Q) X.xe s := by
  have r2 : Vals (vs ++ dvs) (us ++ ds) := r.append hd
  have hl : (us ++ ds).length = ps.length := by rw [← r2.length]; exact F.len _ _ _ _ h
  refine wpAny_call (codeAny_mono (F.run X.A X.stack s H ⟨us, []⟩ (us ++ ds) (vs ++ dvs) Q E hr I.env0 (hb s us I.kIn hl) r2 h) fun r s' hq => ?_)
  cases r with
  | error e => exact hx pins σ H s e s' I hq
  | ok fl =>
    cases fl with
    | ret u => exact I.after hq
    | next => exact False.elim hq
    | brk => exact False.elim hq
    | cont => exact False.elim hq
theorem pe_call (F : FnOk X.prog X.w X.K X.mg X.base CX k f fd ps sp) (hr : Room k X.A) (hg : Gl X x) (hm : X.mg x = some (.ref f)) (hk : PySem.W.keepIn X.K (.ref f) = true) (hb : Binds X.K fd ps ds) (hd : Vals dvs ds) (hx : Passes CX X E)
    (ha : PA X (e :: es) t) (hdb : (x == ("__debug__" : Str)) = false := by decide) (he : starEach (e :: es) X.env = (false, eval e X.env) :: starEach es X.env := by rfl) (hpl : (backTo pos (starEach es X.env)).any (·.1) = false := by rfl) :
    PE X (.Call (.Name x p) (e :: es) [] pos) (tCall sp dvs E t) := by
  intro pins s σ H Q I h
  refine wpAny_Call_Name_kw (ld_glob I hg hm ?_ hdb)
  refine PySem.W.callWith_K (h₀ := X.base) I.ok.mod.kin hk (thn (ha pos pins s σ H _ I h) fun us s1 ⟨vs, H1, I1, r, q⟩ => ⟨I1.kIn, ?_⟩) he hpl
  exact run_fn F hr hb hd hx I1 r q
structure Mk (K : PySem.W.Frag) (C f : Addr) : Prop where
  makes : PySem.W.makesIn K C = true
  init : PySem.W.findIn K (.ref C) "__init__" = some (some (.ref f))
  fn : PySem.W.isFn K (.ref f) = true
  kp : PySem.W.keepIn K (.ref C) = true
theorem run_make {pins : List (Addr × Obj)} {σ : St} {H : Hp} {s : Shared} {Q : VK} {us : List Value} {vs : List V} (M : Mk X.K C f) (F : FnOk X.prog X.w X.K X.mg X.base CX k f fd ps sp) (hr : Room (k + 1) X.A) (hb : Binds X.K fd ps ds) (hd : Vals dvs ds)
    (hx : Passes CX X E) (I : Inv X pins σ H s) (r : Vals vs us)
    (h : ∀ x dx, H x = none → H dx = none → dx ≠ x → sp (.ref x :: (vs ++ dvs)) (upd (upd H dx (.own x)) x (.ins C dx [])) (fun v H2 => v = .non ∧ Q (.ref x) H2) E) :
    wpAny (model X.prog X.w) X.A (call (.ref C) us) (EP X pins σ Q) X.xe s := by
  have hq := h (s.heap.objs.size + 1) s.heap.objs.size (I.hok.fresh (Nat.le_succ _)) (I.hok.fresh (Nat.le_refl _)) (Nat.ne_of_lt (Nat.lt_succ_self _))
  have I2 := Inv.made (C := C) I
  have r2 : Vals (V.ref (s.heap.objs.size + 1) :: (vs ++ dvs)) (Value.ref (s.heap.objs.size + 1) :: (us ++ ds)) := .cons rfl (r.append hd)
  have hl : (Value.ref (s.heap.objs.size + 1) :: us ++ ds).length = ps.length := by
    have e := r2.length
    rw [F.len _ _ _ _ hq] at e
    exact e.symm
  refine wpAny_call (make_map (f := f) I.kIn M.makes M.init (beq_iff_eq.mp M.fn) (codeAny_mono (F.run _ X.stack _ _ ⟨Value.ref (s.heap.objs.size + 1) :: us, []⟩ (Value.ref (s.heap.objs.size + 1) :: (us ++ ds)) _ _ E (hr.make C us [])
    (I2.env0.make C us []) (hb _ (Value.ref (s.heap.objs.size + 1) :: us) I2.kIn hl) r2 hq) fun r s' hq' => ?_))
  cases r with
  | error e => exact hx pins σ _ _ e s' I2 hq'
  | ok fl =>
    cases fl with
    | ret u =>
      obtain ⟨v, H', I3, rv, ev, q3⟩ := I2.after hq'
      subst ev
      exact ⟨rv, ⟨V.ref (s.heap.objs.size + 1), H', I3, rfl, q3⟩⟩
    | next => exact False.elim hq'
    | brk => exact False.elim hq'
    | cont => exact False.elim hq'
theorem pe_make (M : Mk X.K C f) (F : FnOk X.prog X.w X.K X.mg X.base CX k f fd ps sp) (hr : Room (k + 1) X.A) (hg : Gl X x) (hm : X.mg x = some (.ref C)) (hb : Binds X.K fd ps ds) (hd : Vals dvs ds) (hx : Passes CX X E)
    (ha : PA X (e :: es) t) (hdb : (x == ("__debug__" : Str)) = false := by decide) (he : starEach (e :: es) X.env = (false, eval e X.env) :: starEach es X.env := by rfl) (hpl : (backTo pos (starEach es X.env)).any (·.1) = false := by rfl) :
    PE X (.Call (.Name x p) (e :: es) [] pos) (tMake C sp dvs E t) := by
  intro pins s σ H Q I h
  refine wpAny_Call_Name_kw (ld_glob I hg hm ?_ hdb)
  refine PySem.W.callWith_K (h₀ := X.base) I.ok.mod.kin M.kp (thn (ha pos pins s σ H _ I h) fun us s1 ⟨vs, H1, I1, r, q⟩ => ⟨I1.kIn, ?_⟩) he hpl
  exact run_make M F hr hb hd hx I1 r q
theorem pe_make0 (M : Mk X.K C f) (F : FnOk X.prog X.w X.K X.mg X.base CX k f fd ps sp) (hr : Room (k + 1) X.A) (hg : Gl X x) (hm : X.mg x = some (.ref C)) (hb : Binds X.K fd ps ds) (hd : Vals dvs ds) (hx : Passes CX X E)
    (hdb : (x == ("__debug__" : Str)) = false := by decide) : PE X (.Call (.Name x p) [] [] pos) (tMake C sp dvs E tNil) := by
  intro pins s σ H Q I h
  refine wpAny_Call_Name_kw (ld_glob I hg hm ?_ hdb)
  exact PySem.W.callWith_K0 I.kIn M.kp (run_make (us := []) M F hr hb hd hx I .nil h)
end
section
variable {X : Cx} {CX : CXT} {k : Nat} {f C : Addr} {fd : FuncData} {ps ks : List Str} {sp : Sp} {E : XK} {x m : Str} {p pos apos kpos : Pos} {e o : Expr} {es : List Expr} {kws : List Keyword} {te ta : TE} {t tk : TA} {nm : Option Str}
variable {g : List Value → List Value → List Value} {gV : List V → List V → List V}
end
structure FnScope (N P : List Str) (sc : Scope) : Prop where
  kind : sc.kind = .function
  co : sc.isCoroutine = false
  gen : sc.isGenerator = false
  nd : N.Nodup
  pre : N.take P.length = P
  par : ∀ x ∈ P, sc.names.lookup x = some .local ∨ sc.names.lookup x = some .cell
  nofree : ∀ y ∈ sc.names, y.2 ≠ .free
theorem bindL_out {kindOf : Str → Option NameKind} {x : Str} : ∀ {binds : List (Str × Value)} {m : Str → Option Value}, (∀ v, (x, v) ∉ binds) → bindL kindOf binds m x = m x
  | [], _, _ => rfl
  | (n, v) :: r, m, h => by
    unfold bindL
    rw [bindL_out fun w hw => h w (List.mem_cons_of_mem _ hw)]
    split
    · have : x ≠ n := by rintro rfl; exact h v List.mem_cons_self
      simp [this]
    · rfl
theorem bindC_out {kindOf : Str → Option NameKind} {x : Str} : ∀ {binds : List (Str × Value)} {m : Str → Option Value}, (∀ v, (x, v) ∉ binds) → bindC kindOf binds m x = m x
  | [], _, _ => rfl
  | (n, v) :: r, m, h => by
    unfold bindC
    rw [bindC_out fun w hw => h w (List.mem_cons_of_mem _ hw)]
    split
    · rfl
    · have : x ≠ n := by rintro rfl; exact h v List.mem_cons_self
      simp [this]
theorem bindL_get {kindOf : Str → Option NameKind} {x : Str} {v : Value} : ∀ {P : List Str} {vs : List Value} {i : Nat} {m : Str → Option Value}, P.Nodup → P[i]? = some x → vs[i]? = some v → kindOf x = some .local →
    bindL kindOf (P.zip vs) m x = some v
  | [], _, _, _, _, h, _, _ => by simp at h
  | _ :: _, [], _, _, _, _, h, _ => by simp at h
  | p :: P, w :: vs, 0, m, nd, h1, h2, hk => by
    simp at h1 h2; subst h1; subst h2
    show bindL kindOf ((p, w) :: P.zip vs) m p = _
    unfold bindL
    rw [bindL_out fun v hv => (List.nodup_cons.mp nd).1 (List.of_mem_zip hv).1, if_pos hk]
    simp
  | p :: P, w :: vs, i + 1, m, nd, h1, h2, hk => by
    show bindL kindOf ((p, w) :: P.zip vs) m x = _
    unfold bindL
    exact bindL_get (i := i) (List.nodup_cons.mp nd).2 (by simpa using h1) (by simpa using h2) hk
theorem bindC_get {kindOf : Str → Option NameKind} {x : Str} {v : Value} : ∀ {P : List Str} {vs : List Value} {i : Nat} {m : Str → Option Value}, P.Nodup → P[i]? = some x → vs[i]? = some v → kindOf x ≠ some .local →
    bindC kindOf (P.zip vs) m x = some v
  | [], _, _, _, _, h, _, _ => by simp at h
  | _ :: _, [], _, _, _, _, h, _ => by simp at h
  | p :: P, w :: vs, 0, m, nd, h1, h2, hk => by
    simp at h1 h2; subst h1; subst h2
    show bindC kindOf ((p, w) :: P.zip vs) m p = _
    unfold bindC
    rw [bindC_out fun v hv => (List.nodup_cons.mp nd).1 (List.of_mem_zip hv).1, if_neg hk]
    simp
  | p :: P, w :: vs, i + 1, m, nd, h1, h2, hk => by
    show bindC kindOf ((p, w) :: P.zip vs) m x = _
    unfold bindC
    exact bindC_get (i := i) (List.nodup_cons.mp nd).2 (by simpa using h1) (by simpa using h2) hk
def start (N : List Str) (vs : List V) : St := vs.map some ++ List.replicate (N.length - vs.length) none
def cxOf (CX : CXT) (P : Program) (w : World) (K : PySem.W.Frag) (mg : Str → Option Value) (base : Heap) (N : List Str) (qual : Str) (scope : Scope) (f : Addr) (cd : Value) (A : Around) (outer : List Env) (s : Shared) (H : Hp) (E : XK) : Cx where
  prog := P
  w := w
  K := K
  mg := mg
  base := base
  A := A.deeper (envOfC qual scope s.heap.objs.size f cd)
  N := N
  s_0 := s
  H_0 := H
  env := envOfC qual scope s.heap.objs.size f cd
  outer := outer
  stack := envOfC qual scope s.heap.objs.size f cd :: outer
  ex := []
  calm := true
  fn := fun _ => true
  pn := []
  xe := fun e s' => wpAny (model P w) (A.deeper (envOfC qual scope s.heap.objs.size f cd)) (leaving (envOfC qual scope s.heap.objs.size f cd) e) (fun _ s'' => CX outer H s E e s'') (fun e' s'' => CX outer H s E e' s'') s'
theorem cell_has {sc : Scope} {n : Nat} {x : Str} (h : sc.names.lookup x = some .cell) : ∃ c, (cellsFrom n sc.names []).lookup x = some c := by
  have q := PySem.W.cellsFrom_some sc.names n [] (.inl h)
  exact Option.isSome_iff_exists.mp q
theorem inv_start {CX : CXT} {P : Program} {w : World} {K : PySem.W.Frag} {mg : Str → Option Value} {base : Heap} {N ps : List Str} {qual : Str} {scope : Scope} {f : Addr} {cd : Value} {A : Around} {outer : List Env} {s s1 : Shared} {H : Hp} {E : XK} {us : List Value} {vs : List V}
    (S : FnScope N ps scope) (hd : A.handled = none) (e0 : Env0 P w K mg base A outer s H) (hl : vs.length = ps.length) (r : Vals vs us)
    (x : InCallC s s.heap.objs.size (bindL (envOfC qual scope s.heap.objs.size f cd).kindOf (ps.zip us) fun _ => none) (cellsFrom (s.heap.objs.size + 1) scope.names []) (bindC (envOfC qual scope s.heap.objs.size f cd).kindOf (ps.zip us) fun _ => none) s1) :
    Inv (cxOf CX P w K mg base N qual scope f cd A outer s H E) [] (start N vs) H s1 := by
  have hpl : ps.length ≤ N.length := by have := congrArg List.length S.pre; rw [List.length_take] at this; omega
  obtain ⟨h1, tk, rfl, hk⟩ := x.done
  have noA : ∀ b : Addr, b ∉ (cxOf CX P w K mg base N qual scope f cd A outer s H E).ex := fun b z => absurd (show b ∈ ([] : List Addr) from z) (by simp)
  refine ⟨⟨e0.mod, S.kind, rfl, rfl, Nat.le_refl _, fun y z c h1 h2 => ?_, fun y hy => ?_, fun y c _ h => ?_, fun _ => hd, Around.frames_deeper e0.frames, .inr ⟨rfl, rfl⟩, fun b z => absurd z (noA b), e0.bs, e0.bsz, fun b _ _ => noA b, fun b z => absurd z (noA b), e0.funs, e0.frf⟩,
    rfl, e0.bare, Un.kept hk, ⟨_, x.toInCall.ns, fun i y v h1 h2 h3 => ?_⟩, fun y c h => ⟨_, x.cell y c h⟩, e0.hok.fresh (Nat.le_refl _), fun y c h => ?_, fun p hp => absurd (show p ∈ ([] : List (Addr × Obj)) from hp) (by simp), e0.hok.kept hk, ?_⟩
  · exact name_of_addr x.apart (PySem.mem_of_lookup h1) (PySem.mem_of_lookup h2)
  · have hy : scope.names.lookup y = some .cell ∨ scope.names.lookup y = some .free := hy
    rcases hy with hy | hy
    · exact cell_has hy
    · exact absurd rfl (S.nofree _ (PySem.mem_of_lookup hy))
  · exact Nat.le_of_lt (x.above y c (PySem.mem_of_lookup h))
  · have hi : i < vs.length := by
      unfold start at h2
      by_cases hi : i < vs.length
      · exact hi
      · rw [List.getElem?_append_right (by simpa using hi)] at h2
        rw [List.getElem?_replicate] at h2
        split at h2 <;> cases h2
    have ha : vs[i]? = some v := by
      unfold start at h2
      rw [List.getElem?_append_left (by simpa using hi), List.getElem?_map] at h2
      cases e : vs[i]? with
      | none => rw [e] at h2; cases h2
      | some a => rw [e] at h2; cases h2; rfl
    obtain ⟨u, hu, rv⟩ := r.get ha
    have hp : ps[i]? = some y := by
      rw [← S.pre, List.getElem?_take_of_lt (by omega)]; exact h1
    have ndP : ps.Nodup := by rw [← S.pre]; exact S.nd.sublist (List.take_sublist _ _)
    refine ⟨u, rv, ?_⟩
    rcases S.par y (List.mem_of_getElem? hp) with k | k
    · exact .inl ⟨k, bindL_get ndP hp hu k⟩
    · obtain ⟨c, e⟩ := cell_has (n := s.heap.objs.size + 1) k
      refine .inr ⟨.inl k, c, e, ?_⟩
      have q := x.cell y c e
      rw [bindC_get ndP hp hu (by show scope.names.lookup y ≠ _; rw [k]; decide)] at q
      exact q
  · exact e0.hok.fresh (Nat.le_of_lt (x.above y c (PySem.mem_of_lookup h)))
  · unfold start
    show _ = N.length
    rw [List.length_append, List.length_map, List.length_replicate]
    omega
theorem fn_of {CX : CXT} {P : Program} {w : World} {K : PySem.W.Frag} {mg : Str → Option Value} {base : Heap} {k : Nat} {f : Addr} {name qual : Str} {params : Arguments} {body : List Stmt} {scope : Scope} {dV kV doc pm cdv ct oc : Value} {an od : Option Addr}
    {osl : Array (Option Value)} {N ps : List Str} {sp : Sp} (lk : K.lookup f = some ⟨oc, od, .func (PySem.W.fnOf name qual params body scope dV kV doc pm an cdv ct), osl⟩) (hcd : PySem.W.codeIn K cdv qual = true) (S : FnScope N ps scope)
    (len : ∀ vs H Q E, sp vs H Q E → vs.length = ps.length)
    (hbody : ∀ (A : Around) (outer : List Env) (s : Shared) (H : Hp) (vs : List V) (Q : VK) (E : XK), Room k (A.deeper (envOfC qual scope s.heap.objs.size f cdv)) → sp vs H Q E →
      ∃ t, PSs (cxOf CX P w K mg base N qual scope f cdv A outer s H E) body t ∧ t { nx := fun _ H' => Q .non H', rt := Q } (start N vs) H) :
    FnOk P w K mg base CX (k + 1) f (PySem.W.fnOf name qual params body scope dV kV doc pm an cdv ct) ps sp := by
  refine ⟨len, fun A outer s H args us vs Q E hr e0 hb r hsp => ?_⟩
  have hl := len _ _ _ _ hsp
  have KX : K.In s.heap := e0.mod.kin.keeps fun b o e => (e0.bs b o e).1
  have lim : s.heap.NoLimit := e0.mod.nolimit.keeps fun b o e => (e0.bs b o e).1
  have hkind : ∀ y ∈ ps.zip us, scope.names.lookup y.1 = some .local ∨ (scope.names.lookup y.1 = some .cell ∧ ((cellsFrom (s.heap.objs.size + 1) scope.names []).lookup y.1).isSome = true) := fun ⟨n, v⟩ hy => by
    rcases S.par n (List.of_mem_zip hy).1 with q | q
    · exact .inl q
    · exact .inr ⟨q, PySem.W.cellsFrom_some _ _ _ (.inl q)⟩
  refine codeAny_call_function hr.depth (KX _ _ lk) rfl S.co S.gen rfl (PySem.W.codeRec_of KX hcd) (hb _ _ _ _ ?_)
  refine wpAny_newFunctionEnv_cells S.kind hkind fun env he s1 x => ?_
  subst he
  refine ⟨lim.keeps x.toInCall.keep, codeAny_func ?_⟩
  obtain ⟨t, ht, hq⟩ := hbody A outer s H vs Q E (hr.deeper _) hsp
  have I : Inv (cxOf CX P w K mg base N qual scope f cdv A outer s H E) [] (start N vs) H s1 := inv_start S hr.hd e0 hl r x
  refine wpAny_mono (ht [] s1 (start N vs) H _ I hq) (fun fl s' hs => ?_) fun e s' hs => hs
  have fin : ∀ {σ' : St} {H' : Hp} {v : V} {u : Value}, Inv (cxOf CX P w K mg base N qual scope f cdv A outer s H E) [] σ' H' s' → RelV v u → Q v H' → CE outer P w H s Q u s' :=
    fun {σ' H' v u} J rv q => ⟨v, H', J.os, J.bare, J.base, J.hok, rv, q⟩
  cases fl with
  | ret u =>
    obtain ⟨v, σ', H', J, rv, q⟩ := hs
    exact fin J rv q
  | next =>
    obtain ⟨σ', H', J, q⟩ := hs
    exact fin (v := V.non) (u := Value.none) J rfl q
  | brk =>
    obtain ⟨_, _, _, q⟩ := hs
    exact False.elim q
  | cont =>
    obtain ⟨_, _, _, q⟩ := hs
    exact False.elim q
end L2
namespace L2
open PySem PySem.Spec PyProof.Rows
section
variable {X : Cx} {x : Str} {p pos : Pos} {e : Expr} {es : List Expr} {t : TA} {id T : String} {r : List V → Hp → VK → Prop}
def tCB (r : List V → Hp → VK → Prop) (t : TA) : TE := fun σ H Q => t σ H fun vs H1 => r vs H1 Q
theorem pe_callB (hc : CallR X (.builtin id) r) (hg : Gl X x) (hm : X.mg x = none) (hv : bootBuiltins x = some (.builtin id)) (ha : PA X (e :: es) t) (hn : x ≠ "__name__" := by decide) (hdb : (x == ("__debug__" : Str)) = false := by decide)
    (he : starEach (e :: es) X.env = (false, eval e X.env) :: starEach es X.env := by rfl) (hpl : (backTo pos (starEach es X.env)).any (·.1) = false := by rfl) : PE X (.Call (.Name x p) (e :: es) [] pos) (tCB r t) := by
  intro pins s σ H Q I h
  refine wpAny_Call_Name_kw (ld_blt I hg hm hv ?_ hn hdb)
  exact PyProof.Rows.callWith_builtin1 (thn (ha pos pins s σ H _ I h) fun us s1 ⟨vs, H1, I1, r1, q1⟩ => hc pins s1 σ H1 vs us Q I1 r1 q1) he hpl
theorem pe_callTy (hc : CallR X (.type T) r) (hg : Gl X x) (hm : X.mg x = none) (hv : bootBuiltins x = some (.type T)) (ha : PA X (e :: es) t) (hn : x ≠ "__name__" := by decide) (hdb : (x == ("__debug__" : Str)) = false := by decide)
    (he : starEach (e :: es) X.env = (false, eval e X.env) :: starEach es X.env := by rfl) (hpl : (backTo pos (starEach es X.env)).any (·.1) = false := by rfl) : PE X (.Call (.Name x p) (e :: es) [] pos) (tCB r t) := by
  intro pins s σ H Q I h
  refine wpAny_Call_Name_kw (ld_blt I hg hm hv ?_ hn hdb)
  exact PyProof.Rows.callWith_type1 (thn (ha pos pins s σ H _ I h) fun us s1 ⟨vs, H1, I1, r1, q1⟩ => hc pins s1 σ H1 vs us Q I1 r1 q1) he hpl
end
end L2
namespace HT
open PySem PyProof.Rows
section
open PySem.SeqAt
open PySem.AutoSeq1 (wpAny_loadPart')
open PySem.MeetsSeq PySem.MeetsSeq2 PySem.MeetsSeq3
end
section
variable {prog : Program} {w : World} {A : Around} {E : Value → Shared → Prop} {s : Shared}
def sIx (n d : Nat) : Option Int → Nat
  | none => d
  | some v => if v < 0 then (v + (n : Int)).toNat else min v.toNat n
theorem sIx_none (n d : Nat) : sIx n d none = d := rfl
theorem sIx_nat (n d k : Nat) : sIx n d (some (k : Int)) = min k n := by
  show (if (k : Int) < 0 then ((k : Int) + (n : Int)).toNat else min (k : Int).toNat n) = min k n
  rw [if_neg (by omega), Int.toNat_natCast]
end
end HT
namespace L2
open PySem PySem.Spec PyProof.Rows
abbrev TO := St → Hp → (Option Int → Hp → Prop) → Prop
def PO (X : Cx) (e : Option Expr) (t : TO) : Prop :=
  ∀ (pins : List (Addr × Obj)) (s : Shared) (σ : St) (H : Hp) (Q : Option Int → Hp → Prop), Inv X pins σ H s → t σ H Q →
    wpAny (model X.prog X.w) X.A (evalPart e X.env) (fun u s' => ∃ o H', Inv X pins σ H' s' ∧ IsPart u o ∧ Q o H') X.xe s
def tNoPart : TO := fun _ H Q => Q none H
def tPart (t : TE) : TO := fun σ H Q => t σ H fun x H1 => ∃ i, x = .int i ∧ Q (some i) H1
section
variable {X : Cx} {e : Expr} {te : TE} {lo hi : Option Expr} {tl th : TO} {pos p2 : Pos}
theorem po_none : PO X none tNoPart := by
  intro pins s σ H Q I h
  rw [evalPart_none]
  exact wpAny_pure ⟨none, H, I, .none, h⟩
theorem po_some (h : PE X e te) : PO X (some e) (tPart te) := by
  intro pins s σ H Q I hw
  rw [evalPart_some]
  refine thn (h pins s σ H _ I hw) fun u s1 ⟨x, H1, I1, r1, q1⟩ => ?_
  obtain ⟨i, rfl, q⟩ := q1
  obtain ⟨t, rfl⟩ := r1
  exact ⟨some i, H1, I1, .int i t, q⟩
def SlR (X : Cx) (r : V → Option Int → Option Int → Hp → VK → Prop) : Prop :=
  ∀ (pins : List (Addr × Obj)) (s : Shared) (σ : St) (H : Hp) (x : V) (v vl vu : Value) (lo hi : Option Int) (sl : Addr) (Q : VK), Inv X pins σ H s → RelV x v → s.heap.IsSliceOf sl vl vu .none → IsPart vl lo → IsPart vu hi → r x lo hi H Q →
    ∃ T id, typeLookup (.type T) "__getitem__" = pure (some (.builtin id)) ∧ s.TypeIs v T ∧ wpAny (model X.prog X.w) X.A (getItem v (.ref sl)) (EP X pins σ Q) X.xe s
def tSl (r : V → Option Int → Option Int → Hp → VK → Prop) (te : TE) (tl th : TO) : TE := fun σ H Q => te σ H fun x H1 => tl σ H1 fun l H2 => th σ H2 fun u H3 => r x l u H3 Q
theorem pe_slice {r : V → Option Int → Option Int → Hp → VK → Prop} (hr : SlR X r) (he : PE X e te) (hl : PO X lo tl) (hu : PO X hi th) : PE X (.Subscript e (.Slice lo hi none p2) pos) (tSl r te tl th) := by
  intro pins s σ H Q I h
  refine Subscript_ (thn (he pins s σ H _ I h) fun v s1 ⟨x, H1, I1, r1, q1⟩ => ?_)
  refine wpAny_Slice (thn (hl pins s1 σ H1 _ I1 q1) fun vl s2 ⟨l, H2, I2, pl, q2⟩ => thn (hu pins s2 σ H2 _ I2 q2) fun vu s3 ⟨u, H3, I3, pu, q3⟩ => ?_)
  rw [evalPart_none]
  refine wpAny_pure ?_
  have I4 : Inv X pins σ H3 { s3 with heap := s3.heap.push { cls := .type "slice", data := .fields #[vl, vu, .none] } } := I3.kept (t' := s3.toks) fun b ob q => Heap.get?_push_of_some _ q
  obtain ⟨T, id, hT, ht, hg⟩ := hr pins { s3 with heap := s3.heap.push { cls := .type "slice", data := .fields #[vl, vu, .none] } } σ H3 x v vl vu l u s3.heap.objs.size Q I4 r1 (Heap.IsSliceOf.new ..) pl pu q3
  show wpAny (model X.prog X.w) X.A (subscriptTail e (.Slice lo hi none p2) v (.ref s3.heap.objs.size)) (EP X pins σ Q) X.xe { s3 with heap := s3.heap.push { cls := .type "slice", data := .fields #[vl, vu, .none] } }
  exact tail_any (ops := [.ref s3.heap.objs.size, v]) ht hT hg (by with_unfolding_all rfl)
def cutV (xs : List V) (lo hi : Option Int) : List V := (xs.drop (HT.sIx xs.length 0 lo)).take (HT.sIx xs.length xs.length hi - HT.sIx xs.length 0 lo)
theorem cutV_length (xs : List V) (lo hi : Option Int) : (cutV xs lo hi).length ≤ xs.length := by
  unfold cutV
  rw [List.length_take, List.length_drop]
  omega
end
end L2
namespace L2
open PySem PySem.Spec PyProof.Rows
def ixN (n : Nat) (i : Int) : Option Nat := if 0 ≤ i then (if i < n then some i.toNat else none) else if -(n : Int) ≤ i then some (i + n).toNat else none
def atI {α : Type} (xs : List α) (i : Int) : Option α := (ixN xs.length i).bind fun j => xs[j]?
theorem ixN_seq {n : Nat} {i : Int} {j : Nat} (h : ixN n i = some j) : seqIndex? i n = some j ∧ j < n ∧ -(n : Int) ≤ i ∧ i < n := by
  unfold ixN at h
  by_cases h0 : 0 ≤ i
  · rw [if_pos h0] at h
    by_cases h1 : i < n
    · rw [if_pos h1] at h
      have e : i.toNat = j := Option.some.inj h
      exact ⟨by rw [seqIndex_of h0 h1, e], by omega, by omega, h1⟩
    · rw [if_neg h1] at h; cases h
  · rw [if_neg h0] at h
    by_cases h1 : -(n : Int) ≤ i
    · rw [if_pos h1] at h
      have e : (i + n).toNat = j := Option.some.inj h
      exact ⟨by rw [seqIndex_neg (by omega) h1, e], by omega, h1, by omega⟩
    · rw [if_neg h1] at h; cases h
theorem atI_get {α : Type} {xs : List α} {i : Int} {v : α} (h : atI xs i = some v) : ∃ j, seqIndex? i xs.length = some j ∧ xs[j]? = some v ∧ j < xs.length ∧ -(xs.length : Int) ≤ i ∧ i < xs.length := by
  unfold atI at h
  cases e : ixN xs.length i with
  | none => rw [e] at h; cases h
  | some j =>
    rw [e] at h
    obtain ⟨h1, h2, h3, h4⟩ := ixN_seq e
    exact ⟨j, h1, h, h2, h3, h4⟩
theorem atI_nat {α : Type} {xs : List α} {j : Nat} {v : α} (h : xs[j]? = some v) : atI xs (j : Int) = some v := by
  have hj : j < xs.length := (List.getElem?_eq_some_iff.mp h).1
  have e : ixN xs.length (j : Int) = some j := by
    unfold ixN
    rw [if_pos (by omega), if_pos (by omega)]; simp
  unfold atI; rw [e]; exact h
def PlainIx (b : Expr) : Prop := ∀ o i, subscripted b false o i = operate [o, i] (getItem o i)
def IxR (X : Cx) (r : R2) : Prop :=
  ∀ (value slice : Expr) (pins : List (Addr × Obj)) (s : Shared) (σ : St) (H : Hp) (x y : V) (v u : Value) (Q : VK), Inv X pins σ H s → RelV x v → RelV y u → r x y H Q →
    subscripted slice false v u = operate [v, u] (getItem v u) → wpAny (model X.prog X.w) X.A (subscriptTail value slice v u) (EP X pins σ Q) X.xe s
def MtR (X : Cx) (id : String) (r : V → List V → Hp → VK → Prop) : Prop :=
  ∀ (pins : List (Addr × Obj)) (s : Shared) (σ : St) (H : Hp) (x : V) (xs : List V) (v : Value) (us : List Value) (Q : VK), Inv X pins σ H s → RelV x v → Vals xs us → r x xs H Q →
    wpAny (model X.prog X.w) X.A (call (.builtin id) (v :: us)) (EP X pins σ Q) X.xe s
section
variable {X : Cx} {a b : Expr} {ta tb : TE} {pos : Pos}
theorem pe_ix {r : R2} (hr : IxR X r) (ha : PE X a ta) (hb : PE X b tb) (hs : PlainIx b) : PE X (.Subscript a b pos) (tOp r ta tb) := by
  intro pins s σ H Q I h
  exact Subscript_ (binT ha hb I h fun v u s2 x y H2 I2 rx ry q => hr a b pins s2 σ H2 x y v u Q I2 rx ry q (hs _ _))
def rIxL (K : PySem.W.Frag) : R2 := fun x y H Q => ∃ p xs i v, x = .ref p ∧ y = .int i ∧ SqL K H p xs ∧ atI xs i = some v ∧ Q v H
def rIxT (K : PySem.W.Frag) : R2 := fun x y H Q => ∃ p xs i v, x = .ref p ∧ y = .int i ∧ SqT K H p xs ∧ atI xs i = some v ∧ Q v H
theorem ix_list : IxR X (rIxL X.K) := by
  intro value slice pins s σ H x y v u Q I rx ry h hs
  obtain ⟨p, xs, i, z, rfl, rfl, hq, he, q⟩ := h
  cases rx
  obtain ⟨t, rfl⟩ := ry
  obtain ⟨its, r, pl, hz⟩ := I.list hq
  obtain ⟨j, h1, h2, h3, h4, h5⟩ := atI_get he
  obtain ⟨w, ew, rw'⟩ := r.get h2
  have hl := r.length
  have hn := line63
  have fin : EP X pins σ Q w s := ⟨z, H, I, rw', q⟩
  by_cases h0 : 0 ≤ i
  · have hj : i.toNat = j := by
      rw [seqIndex_of h0 h5] at h1
      exact Option.some.inj h1
    exact item_listR pl.isList h0 (by omega) (by rw [hj]; simpa using ew) fin hs
  · have hj : (i + (its.toArray.size : Int)).toNat = j := by
      rw [seqIndex_neg (by omega) h4] at h1
      rw [List.size_toArray, ← hl]
      exact Option.some.inj h1
    exact subscriptTail_builtinR (x := w) pl.isList.typeIs slot_list_getitem.lookup
      (wpAny_getItem_list_neg (Q := fun r s' => r = w ∧ EP X pins σ Q r s') pl.isList (by omega) (by rw [List.size_toArray] <;> omega) (by omega) (by rw [hj]; simpa using ew) ⟨rfl, fin⟩) hs
theorem ix_tup : IxR X (rIxT X.K) := by
  intro value slice pins s σ H x y v u Q I rx ry h hs
  obtain ⟨p, xs, i, z, rfl, rfl, hq, he, q⟩ := h
  cases rx
  obtain ⟨t, rfl⟩ := ry
  obtain ⟨its, r, pl, hz⟩ := I.tuple hq
  obtain ⟨j, h1, h2, h3, h4, h5⟩ := atI_get he
  obtain ⟨w, ew, rw'⟩ := r.get h2
  have hl := r.length
  have hn := line63
  have fin : EP X pins σ Q w s := ⟨z, H, I, rw', q⟩
  exact subscriptTail_builtinR (x := w) pl.typeIs slot_tuple_getitem.lookup
    (getItem_tuple (j := j) (Q := fun r s' => r = w ∧ EP X pins σ Q r s') pl (by omega) (by omega) (by rw [List.size_toArray, ← hl]; exact h1) (by simpa using ew) ⟨rfl, fin⟩) hs
theorem slice_bounds (lo hi : Option Int) (n : Nat) : (sliceBounds lo hi none n).1 = ((HT.sIx n 0 lo : Nat) : Int) ∧ (sliceBounds lo hi none n).2.1 = ((HT.sIx n n hi : Nat) : Int) ∧ (sliceBounds lo hi none n).2.2 = 1 := by
  refine ⟨?_, ?_, rfl⟩
  · cases lo with
    | none => simp [sliceBounds, HT.sIx]
    | some i =>
      simp only [sliceBounds, HT.sIx, Option.getD_none, show (1 : Int) > 0 by decide, if_true]
      by_cases h : i < 0
      · simp only [h, if_true] <;> omega
      · simp only [h, if_false] <;> omega
  · cases hi with
    | none => simp [sliceBounds, HT.sIx]
    | some i =>
      simp only [sliceBounds, HT.sIx, Option.getD_none, show (1 : Int) > 0 by decide, if_true]
      by_cases h : i < 0
      · simp only [h, if_true] <;> omega
      · simp only [h, if_false] <;> omega
theorem slicePick_cut (its : List Value) (lo hi : Option Int) : slicePick its.toArray lo hi none = ((its.drop (HT.sIx its.length 0 lo)).take (HT.sIx its.length its.length hi - HT.sIx its.length 0 lo)).toArray := by
  obtain ⟨h1, h2, h3⟩ := slice_bounds lo hi its.toArray.size
  unfold slicePick
  rw [h1, h2, h3]
  simp only [sliceRange_one, pick_run, List.size_toArray] <;> rfl
def rSlL (K : PySem.W.Frag) : V → Option Int → Option Int → Hp → VK → Prop := fun x lo hi H Q => ∃ a xs, x = .ref a ∧ SqL K H a xs ∧ ∀ p, H p = none → Q (.ref p) (upd H p (.lst (cutV xs lo hi)))
theorem sl_list : SlR X (rSlL X.K) := by
  intro pins s σ H x v vl vu lo hi sl Q I rx hs pl pu h
  obtain ⟨a, xs, rfl, hx, q⟩ := h
  cases rx
  obtain ⟨its, r, ht, hz⟩ := I.list hx
  have hlen := r.length
  refine ⟨"list", _, slot_list_getitem.lookup, ht.isList.typeIs, ?_⟩
  refine wpAny_getItem_list_slice ht.isList hs pl pu .none (by simp) ?_ (by rw [List.size_toArray] <;> omega)
  rw [slicePick_cut, ← hlen]
  refine ⟨.ref s.heap.objs.size, _, I.laid (t' := s.toks) (o := .lst (cutV xs lo hi)) (fun b ob q => Heap.get?_push_of_some _ q) (Nat.le_refl _) ?_, rfl, q _ (I.hok.fresh (Nat.le_refl _))⟩
  exact ⟨Nat.le_trans (cutV_length xs lo hi) hz, _, 0, (r.drop (HT.sIx xs.length 0 lo)).take (HT.sIx xs.length xs.length hi - HT.sIx xs.length 0 lo), Heap.get?_push_size _ rfl⟩
theorem call_len_seq : CallR X (.builtin "len") (fun xs H Q => ∃ p ys, xs = [.ref p] ∧ (SqL X.K H p ys ∨ SqT X.K H p ys) ∧ Q (.int ys.length) H) := by
  intro pins s σ H xs us Q I r h
  obtain ⟨p, ys, rfl, hq, q⟩ := h
  obtain ⟨u, rfl, rx⟩ := vals1 r
  cases rx
  have hn := line63
  rcases hq with hq | hq
  · obtain ⟨its, r', pl, hz⟩ := I.list hq
    have hlen := r'.length
    exact Calls.call_len_list pl.isList (by simp only [List.size_toArray] <;> omega) ⟨.int ys.length, H, I.tok _, ⟨s.toks + 1, by rw [List.size_toArray, hlen]⟩, q⟩
  · obtain ⟨its, r', pl, hz⟩ := I.tuple hq
    have hlen := r'.length
    exact len_tuple pl (by simp only [List.size_toArray] <;> omega) ⟨.int ys.length, H, I.tok _, ⟨s.toks + 1, by rw [List.size_toArray, hlen]⟩, q⟩
theorem call_list_of : CallR X (.type "list") (fun xs H Q => ∃ p ys, xs = [.ref p] ∧ (SqL X.K H p ys ∨ SqT X.K H p ys) ∧ ∀ l, H l = none → Q (.ref l) (upd H l (.lst ys))) := by
  intro pins s σ H xs us Q I r h
  obtain ⟨p, ys, rfl, hq, q⟩ := h
  obtain ⟨u, rfl, rx⟩ := vals1 r
  cases rx
  have fin : ∀ (its : List Value), Vals ys its → ys.length ≤ sizeLine → ∀ (h' : Heap) (c' : Nat), (∀ b o', s.heap.get? b = some o' → h'.get? b = some o') →
      h'.get? s.heap.objs.size = some { cls := .type "list", dict := none, data := .seq its.toArray c', slots := #[] } → EP X pins σ Q (.ref s.heap.objs.size) { s with heap := h' } := fun its r' hz h' c' kp e =>
    ⟨.ref s.heap.objs.size, _, I.laid (t' := s.toks) kp (Nat.le_refl _) (show ObjOk X.prog X.w _ h' _ (.lst ys) from ⟨hz, its, c', r', e⟩), rfl, q _ (I.hok.fresh (Nat.le_refl _))⟩
  rcases hq with hq | hq
  · obtain ⟨its, r', pl, hz⟩ := I.list hq
    have hlen := r'.length
    obtain ⟨o, ho, hc, n, hd⟩ := pl.isList
    exact call_list_seq p (.inl rfl) ho hc hd (fun h' c' kp e => fin its r' hz h' c' kp e) (by simp only [List.size_toArray] <;> omega)
  · obtain ⟨its, r', pl, hz⟩ := I.tuple hq
    have hlen := r'.length
    obtain ⟨o, ho, hc, n, hd⟩ := pl
    exact call_list_seq p (.inr rfl) ho hc hd (fun h' c' kp e => fin its r' hz h' c' kp e) (by simp only [List.size_toArray] <;> omega)
def tyV (K : PySem.W.Frag) (T : String) (x : V) (H : Hp) : Prop := match x with
  | .str _ => T = "str"
  | .int _ => T = "int"
  | .ref p => (T = "list" ∧ ∃ xs, SqL K H p xs) ∨ (T = "tuple" ∧ ∃ o, K.lookup p = some o ∧ o.cls = .type "tuple" ∧ o.dict = none) ∨
      (T = "dict" ∧ ((∃ kvs, H p = some (.dK kvs)) ∨ ∃ kvs, H p = some (.dT kvs))) ∨ (T = "set" ∧ ∃ S n, H p = some (.set S n))
  | _ => False
theorem tyV_is {pins : List (Addr × Obj)} {σ : St} {H : Hp} {s : Shared} {T : String} {x : V} {v : Value} (I : Inv X pins σ H s) (r : RelV x v) (ty : tyV X.K T x H) :
    s.TypeIs v T ∧ ∀ a, v = .ref a → ∃ ob, s.heap.get? a = some ob ∧ ob.dict = none := by
  cases x with
  | str z =>
    obtain ⟨t, rfl⟩ := r
    cases (show T = "str" from ty)
    exact ⟨typeIs_str s z t, fun _ e => nomatch e⟩
  | int i =>
    obtain ⟨t, rfl⟩ := r
    cases (show T = "int" from ty)
    exact ⟨typeIs_int s i t, fun _ e => nomatch e⟩
  | ref p =>
    cases r
    rcases ty with ⟨rfl, xs, hq⟩ | ⟨rfl, o, hk, hc, hd⟩ | ⟨rfl, hk⟩ | ⟨rfl, S, n, hk⟩
    · obtain ⟨its, _, pl, _⟩ := I.list hq
      refine ⟨pl.isList.typeIs, fun a e => ?_⟩
      cases e
      obtain ⟨o, n, e, c, hd, _⟩ := pl
      exact ⟨o, e, hd⟩
    · refine ⟨⟨o, I.kIn p o hk, hc⟩, fun a e => ?_⟩
      cases e
      exact ⟨o, I.kIn _ o hk, hd⟩
    · have z : ∃ o, s.heap.get? p = some o ∧ o.ExactDict := by
        rcases hk with ⟨kvs, hk⟩ | ⟨kvs, hk⟩
        · obtain ⟨_, _, _, _, o, _, _, e, ex, _⟩ := I.hok p _ hk
          exact ⟨o, e, ex⟩
        · obtain ⟨_, _, _, _, o, _, _, e, ex, _⟩ := I.hok p _ hk
          exact ⟨o, e, ex⟩
      obtain ⟨o, e, ex⟩ := z
      refine ⟨⟨o, e, ex.1⟩, fun a e2 => ?_⟩
      cases e2
      exact ⟨o, e, ex.2.1⟩
    · obtain ⟨o, _, _, _, e, ex, _⟩ := I.hok p _ hk
      refine ⟨⟨o, e, ex.1⟩, fun a e2 => ?_⟩
      cases e2
      exact ⟨o, e, ex.2.1⟩
  | _ => exact False.elim ty
def tBM (K : PySem.W.Frag) (T : String) (r : V → List V → Hp → VK → Prop) (to : TE) (t : TA) : TE := fun σ H Q => to σ H fun x H1 => tyV K T x H1 ∧ t σ H1 fun xs H2 => r x xs H2 Q
variable {o e : Expr} {es : List Expr} {to : TE} {t : TA} {name : Str} {apos cpos : Pos} {T id : String} {r : V → List V → Hp → VK → Prop}
theorem pe_bm (pa : PlainAttrs T) (slot : Slot T name id) (hty : typeOf (.builtin id) = pure (.type "method_descriptor")) (hm : MtR X id r) (ho : PE X o to) (ha : PA X (e :: es) t)
    (hbase : attributeBase o name X.env (eval o X.env) = eval o X.env := by rfl)
    (hfew : ((backTo cpos (starEach (e :: es) X.env)).all (fun x => !x.1) && (backToKw cpos (keywordEach [] X.env)).all (fun x => x.1.isSome)
      && decide ((e :: es).length + ([] : List Keyword).length + (if ([] : List Keyword).isEmpty then 0 else 1) < 30)) = true := by rfl)
    (hline : (apos.endLine == cpos.line) = true := by rfl) (hs : starEach (e :: es) X.env = (false, eval e X.env) :: starEach es X.env := by rfl) (hplain : (backTo cpos (starEach es X.env)).any (·.1) = false := by rfl) :
    PE X (.Call (.Attribute o name apos) (e :: es) [] cpos) (tBM X.K T r to t) := by
  intro pins s σ H Q I h
  refine wpAny_Call_method_late hbase hfew hline rfl (thn (ho pins s σ H _ I h) fun v s1 ⟨x, H1, I1, r1, ty, q1⟩ => ?_)
  obtain ⟨h1, h2⟩ := tyV_is I1 r1 ty
  refine ⟨T, id, pa, slot, hty, h1, h2, ?_⟩
  have hA := ha cpos pins s1 σ H1 _ I1 q1
  rw [hs] at hA ⊢
  refine Calls.callWith_builtin (by show (false || (backTo cpos (starEach es X.env)).any (·.1)) = false; rw [hplain] <;> rfl) (Calls.evalArgs_plain ?_)
  exact thn hA fun us s2 ⟨vs, H2, I2, r2, q2⟩ => hm pins s2 σ H2 x vs v us Q I2 r1 r2 q2
end
end L2
namespace L2
open PySem PySem.Spec PyProof.Rows
def MtM (X : Cx) (id : String) (r : V → List V → Hp → VK → Prop) : Prop :=
  ∀ (pins : List (Addr × Obj)) (s : Shared) (σ : St) (H : Hp) (x : V) (xs : List V) (v : Value) (us : List Value) (Q : VK), Inv X pins σ H s → RelV x v → Vals xs us → r x xs H Q →
    wpAny (model X.prog X.w) X.A (call (.builtin id) (v :: us)) (EP X pins σ Q) X.xe s
theorem Vals.one : ∀ {x : V} {us : List Value}, Vals [x] us → ∃ u, us = [u] ∧ RelV x u
  | _, _, .cons r .nil => ⟨_, rfl, r⟩
section
variable {X : Cx} {pins : List (Addr × Obj)} {σ : St} {H : Hp} {s : Shared} {l b : Addr} {xs ys zs : List V}
theorem Inv.lset {its its' : List Value} {n : Nat} {f : Array Value → Array Value} {t' : Nat} (I : Inv X pins σ H s) (hH : H l = some (.lst xs))
    (e : s.heap.get? l = some { cls := .type "list", data := .seq its.toArray n }) (hf : f its.toArray = its'.toArray) (hv : Vals ys its') (hz : ys.length ≤ sizeLine) :
    Inv X pins σ (upd H l (.lst ys)) { s with heap := s.heap.update l (Obj.mapSeq f), toks := t' } := by
  have q := PySem.IsL.update e f
  rw [hf] at q
  refine I.write (x := l) (e := l) (by rw [hH]; exact trivial) (.inl rfl) (fun b' u hb hu => (Heap.get?_update_other s.heap (Obj.mapSeq f) (Ne.symm hb)).trans hu) ⟨_, q⟩ ?_
  exact ⟨hz, its', _, hv, q⟩
theorem Inv.lnew {its : List Value} {t' : Nat} (I : Inv X pins σ H s) (hv : Vals ys its) (hz : ys.length ≤ sizeLine) :
    Inv X pins σ (upd H s.heap.objs.size (.lst ys)) { s with heap := s.heap.push { cls := .type "list", data := .seq its.toArray }, toks := t' } :=
  I.laid (fun _ _ q => Heap.get?_push_of_some _ q) (Nat.le_refl _) ⟨hz, its, 0, hv, Heap.get?_push_size _ rfl⟩
theorem Inv.fresh (I : Inv X pins σ H s) : H s.heap.objs.size = none := I.hok.fresh (Nat.le_refl _)
theorem Inv.lstM (I : Inv X pins σ H s) (hH : H l = some (.lst xs)) : xs.length ≤ sizeLine ∧ ∃ (its : List Value) (n : Nat), Vals xs its ∧ xs.length = its.length ∧ s.heap.get? l = some { cls := .type "list", data := .seq its.toArray n } := by
  obtain ⟨z, its, n, r, e⟩ := I.hok l _ hH
  exact ⟨z, its, n, r, r.length, e⟩
theorem notLongL {n : Nat} (h : n ≤ sizeLine) : Builtin.List.listTooLong n = false := by
  unfold Builtin.List.listTooLong
  exact decide_eq_false (by omega)
end
section
variable {X : Cx}
def rAppend : V → List V → Hp → VK → Prop := fun x vs H Q => ∃ l xs y, x = .ref l ∧ vs = [y] ∧ H l = some (.lst xs) ∧ xs.length < sizeLine ∧ Q .non (upd H l (.lst (xs ++ [y])))
theorem mt_append : MtM X "list.append" rAppend := by
  intro pins s σ H x vs v us Q I rx rv h
  obtain ⟨l, xs, y, rfl, rfl, hH, hz, q⟩ := h
  cases rx
  obtain ⟨u, rfl, ru⟩ := rv.one
  obtain ⟨z, its, n, r, hl, e⟩ := I.lstM hH
  refine call_meets F.slot_list_append ⟨_, e, rfl⟩ F.entry_list_append (F.args_list_append_2 _ _) (PySem.list_append l its.toArray n u (by rw [List.size_toArray]; omega)) ⟨e, ?_⟩
  refine ⟨.non, _, I.lset (its' := its ++ [u]) hH e (by simp) (r.append (.cons ru .nil)) ?_, rfl, q⟩
  rw [List.length_append, List.length_singleton]
  omega
def rExtend : V → List V → Hp → VK → Prop := fun x vs H Q => ∃ l b xs zs, x = .ref l ∧ vs = [.ref b] ∧ H l = some (.lst xs) ∧ H b = some (.lst zs) ∧ xs.length + zs.length ≤ sizeLine ∧ Q .non (upd H l (.lst (xs ++ zs)))
theorem mt_extend : MtM X "list.extend" rExtend := by
  intro pins s σ H x vs v us Q I rx rv h
  obtain ⟨l, b, xs, zs, rfl, rfl, hH, hB, hz, q⟩ := h
  cases rx
  obtain ⟨u, rfl, ru⟩ := rv.one
  cases ru
  obtain ⟨z, its, n, r, hl, e⟩ := I.lstM hH
  obtain ⟨z2, its2, n2, r2, hl2, e2⟩ := I.lstM hB
  have hsz : its.toArray.size + its2.toArray.size ≤ sizeLine := by rw [List.size_toArray, List.size_toArray]; omega
  have hlong : ¬ (!its.toArray.isEmpty && Builtin.List.listTooLong (its.toArray.size + its2.toArray.size)) = true := by
    rw [notLongL hsz, Bool.and_false]
    exact Bool.false_ne_true
  refine call_meets F.slot_list_extend ⟨_, e, rfl⟩ F.entry_list_extend (F.args_list_extend_2 _ _)
    (AutoSeq1.list_extend_list_list_0 l its.toArray n b its2.toArray n2 hlong (by rw [List.size_toArray]; omega) (by omega)) ⟨e, e2, ?_⟩
  refine ⟨.non, _, I.lset (its' := its ++ its2) hH e (by simp) (r.append r2) ?_, rfl, q⟩
  rw [List.length_append]
  omega
def rCat : R2 := fun x y H Q => ∃ l b xs zs, x = .ref l ∧ y = .ref b ∧ H l = some (.lst xs) ∧ H b = some (.lst zs) ∧ xs.length + zs.length ≤ sizeLine ∧ ∀ p, H p = none → Q (.ref p) (upd H p (.lst (xs ++ zs)))
theorem op_cat : OpR X (binaryOp .Add) rCat := by
  intro pins s σ H x y v u Q I rx ry h
  obtain ⟨l, b, xs, zs, rfl, rfl, hH, hB, hz, q⟩ := h
  cases rx
  cases ry
  obtain ⟨z, its, n, r, hl, e⟩ := I.lstM hH
  obtain ⟨z2, its2, n2, r2, hl2, e2⟩ := I.lstM hB
  refine PySem.P.add_list e e2 ?_ (by rw [List.size_toArray, List.size_toArray]; omega)
  have ea : its.toArray ++ its2.toArray = (its ++ its2).toArray := by simp
  rw [ea]
  exact ⟨.ref _, _, I.lnew (t' := s.toks) (r.append r2) (by rw [List.length_append]; omega), rfl, q _ I.fresh⟩
end
section
variable {prog : Program} {w : World} {A : Around} {E : Value → Shared → Prop} {s : Shared}
set_option maxRecDepth 100000 in
end
section
variable {X : Cx}
end
end L2
namespace L2
open PySem PySem.Spec PyProof.Rows
theorem Vals.ints : ∀ {ns : List Int} {us : List Value}, Vals (ns.map V.int) us → IntsAre us ns
  | [], us, h => by
    rw [List.map_nil] at h
    cases h
    exact IntsAre.nil
  | n :: ns, us, h => by
    rw [List.map_cons] at h
    cases h with
    | cons r t =>
      obtain ⟨k, rfl⟩ := r
      exact IntsAre.cons n k (Vals.ints t)
theorem vals_of_ints : ∀ {us : List Value} {ns : List Int}, IntsAre us ns → Vals (ns.map V.int) us
  | _, _, .nil => by rw [List.map_nil]; exact Paired.nil
  | _, _, .cons n t h => by rw [List.map_cons]; exact Paired.cons (show RelV (V.int n) (Value.int n t) from ⟨t, rfl⟩) (vals_of_ints h)
theorem Vals.bls : ∀ {bs : List Bool} {us : List Value}, Vals (bs.map V.bl) us → us = bs.map Value.bool
  | [], us, h => by
    rw [List.map_nil] at h
    cases h
    rfl
  | b :: bs, us, h => by
    rw [List.map_cons] at h
    cases h with
    | cons r t =>
      cases r
      rw [Vals.bls t, List.map_cons]
theorem Vals.ref1 {a : Addr} {us : List Value} (r : Vals [V.ref a] us) : us = [Value.ref a] := by
  cases r with
  | cons r t =>
    cases t
    cases r
    rfl
section
variable {prog : Program} {w : World} {A : Around} {E : Value → Shared → Prop} {s : Shared} {l : Addr} {its : List Value} {ns : List Int} {Q : Value → Shared → Prop}
theorem sum_raw (hh : A.handled = none) (hl : s.heap.IsList l its.toArray) (hi : IntsAre its ns)
    (h : ∀ h' tk t', (∀ b o, s.heap.get? b = some o → h'.get? b = some o) → Q (.int ns.sum t') { s with heap := h', toks := tk }) : wpAny (model prog w) A (call (.builtin "sum") [.ref l]) Q E s := by
  obtain ⟨xs, e⟩ := hi.allInts.items
  have hn : numsOf (intItems xs).toList = ns := by rw [← e]; exact hi.numsOf
  rw [nums_intItems] at hn
  rw [e] at hl
  refine PySem.sum_intListG hh hl fun h' tk t' hk => ?_
  have := h h' tk t' hk
  rw [preSum_eq, List.take_of_length_le (by simp), hn]; exact this
end
section
variable {X : Cx}
def rSum (K : PySem.W.Frag) : List V → Hp → VK → Prop := fun vs H Q => ∃ (a : Addr) (ns : List Int), vs = [V.ref a] ∧ SqL K H a (ns.map V.int) ∧ Q (.int ns.sum) H
theorem cr_sum (hc : X.calm = true) : CallR X (.builtin "sum") (rSum X.K) := by
  intro pins s σ H vs us Q I r h
  obtain ⟨a, ns, rfl, hs, q⟩ := h
  obtain ⟨its, rv, hl, _⟩ := I.list hs
  rw [Vals.ref1 r]
  exact sum_raw (I.ok.hd hc) hl.isList rv.ints fun h' tk t' hk => ⟨.int _, H, I.kept hk, ⟨_, rfl⟩, q⟩
theorem small64 {n : Nat} (h : n < 64) : n ≤ sizeLine := by rw [sizeLine_eq]; omega
end
section
variable {X : Cx}
end
section
variable {X : Cx}
end
theorem iter_any {prog : Program} {w : World} {A : Around} {E : Value → Shared → Prop} {s : Shared} {l : Addr} {items : Array Value} {Q : Value → Shared → Prop} (hl : s.heap.IsList l items)
    (h : ∀ s₂ : Shared, s₂ = { s with heap := s.heap.push { cls := .type "list_iterator", data := .fields #[.ref l, .int 0 0] } } →
      (s₂.heap.IsListIter s.heap.objs.size l 0 ∧ s₂.heap.IsList l items) → l ≠ s.heap.objs.size → Q (.ref s.heap.objs.size) s₂) : wpAny (model prog w) A (pyIter (.ref l)) Q E s := by
  have hlt : l < s.heap.objs.size := by obtain ⟨_, e, _⟩ := hl; exact Heap.lt_size e
  exact wpAny_pyIter_list hl (h _ rfl ⟨⟨_, Heap.get?_push_size _ rfl, rfl, rfl⟩, hl.push _⟩ (Nat.ne_of_lt hlt))
theorem truth_bools {prog : Program} {w : World} {A : Around} {bs : List Bool} {its : List Value} (e : its = bs.map Value.bool) :
    TruthOf prog w A (fun i v => its.toArray[i]? = some v) (fun i => bs.getD i false) := fun i v s Q E hv hq => by
  have hv' : its[i]? = some v := by simpa using hv
  rw [e, List.getElem?_map] at hv'
  obtain ⟨b, hb, rfl⟩ := Option.map_eq_some_iff.mp hv'
  have hg : bs.getD i false = b := by rw [List.getD_eq_getElem?_getD, hb] <;> rfl
  have hq' : Q (bs.getD i false) s := hq
  rw [hg] at hq'
  exact wpAny_truthy_bool hq'
theorem any_range : ∀ bs : List Bool, (List.range bs.length).any (fun i => bs.getD i false) = bs.any id
  | [] => rfl
  | b :: bs => by
    rw [List.length_cons, List.range_succ_eq_map, List.any_cons, List.any_map, List.any_cons, ← any_range bs]
    all_goals rfl
theorem all_range : ∀ bs : List Bool, (List.range bs.length).all (fun i => bs.getD i false) = bs.all id
  | [] => rfl
  | b :: bs => by
    rw [List.length_cons, List.range_succ_eq_map, List.all_cons, List.all_map, List.all_cons, ← all_range bs]
    all_goals rfl
section
variable {X : Cx}
def rAll (K : PySem.W.Frag) : List V → Hp → VK → Prop := fun vs H Q => ∃ (a : Addr) (bs : List Bool), vs = [V.ref a] ∧ SqL K H a (bs.map V.bl) ∧ Q (.bl (bs.all id)) H
theorem cr_all (hc : X.calm = true) : CallR X (.builtin "all") (rAll X.K) := by
  intro pins s σ H vs us Q I r h
  obtain ⟨a, bs, rfl, hs, q⟩ := h
  obtain ⟨its, rv, hl, _⟩ := I.list hs
  rw [Vals.ref1 r]
  have hb := rv.bls
  refine call_all_walk (iter_any hl.isList fun s₂ e2 st hne => ?_)
  subst e2
  refine ⟨_, _, _, _, _, _, _, rfl, Walks.list (A := X.A.in1) (I.ok.hd hc) _ a hne its.toArray, st, truth_bools hb, fun h' tk hk => ?_⟩
  refine ⟨.bl _, H, I.kept fun b o eo => hk b o (fun hmem => ?_) (Heap.get?_push_of_some _ eo), ?_, q⟩
  · rcases List.mem_cons.mp hmem with e1 | hmem
    · exact absurd (e1 ▸ Heap.lt_size eo) (Nat.lt_irrefl _)
    · cases hmem
  · show Value.bool _ = Value.bool _
    rw [← all_range, hb, List.size_toArray, List.length_map]
end
mutual
inductive Dp (K : PySem.W.Frag) (H : Hp) : V → PyData → Prop
  | non : Dp K H .non .none
  | bl (b : Bool) : Dp K H (.bl b) (.bool b)
  | int (i : Int) : Dp K H (.int i) (.int i)
  | str (x : Str) : Dp K H (.str x) (.str x)
  | lst {a : Addr} {xs : List V} {ds : List PyData} : SqL K H a xs → DpAll K H xs ds → Dp K H (.ref a) (.list ds)
  | tup {a : Addr} {xs : List V} {ds : List PyData} : SqT K H a xs → DpAll K H xs ds → Dp K H (.ref a) (.tuple ds)
inductive DpAll (K : PySem.W.Frag) (H : Hp) : List V → List PyData → Prop
  | nil : DpAll K H [] []
  | cons {v : V} {vs : List V} {d : PyData} {ds : List PyData} : Dp K H v d → DpAll K H vs ds → DpAll K H (v :: vs) (d :: ds)
end
section
variable {X : Cx} {pins : List (Addr × Obj)} {σ : St} {H : Hp} {s : Shared}
mutual
theorem Dp.reads (I : Inv X pins σ H s) : ∀ (d : PyData) (v : V) (u : Value), Dp X.K H v d → RelV v u → ∃ as, Reads s.heap u d as
  | .none, _, _, h, r => by
    cases h
    cases r
    exact ⟨_, Reads.none⟩
  | .bool b, _, _, h, r => by
    cases h
    cases r
    exact ⟨_, Reads.bool b⟩
  | .int i, _, _, h, r => by
    cases h
    obtain ⟨t, rfl⟩ := r
    exact ⟨_, Reads.int i t⟩
  | .str x, _, _, h, r => by
    cases h
    obtain ⟨t, rfl⟩ := r
    exact ⟨_, Reads.str x t⟩
  | .list ds, _, _, h, r => by
    cases h with
    | lst hs ha =>
      cases r
      obtain ⟨its, rv, ⟨o, n, ho, hc, _, hd⟩, _⟩ := I.list hs
      obtain ⟨as, hr⟩ := Dp.readsAll I ds _ its ha rv
      exact ⟨_, Reads.list ho hc hd hr⟩
  | .tuple ds, _, _, h, r => by
    cases h with
    | tup hs ha =>
      cases r
      obtain ⟨its, rv, ⟨o, ho, hc, n, hd⟩, _⟩ := I.tuple hs
      obtain ⟨as, hr⟩ := Dp.readsAll I ds _ its ha rv
      exact ⟨_, Reads.tuple ho hc hd hr⟩
  | .dict _, _, _, h, _ => by cases h
theorem Dp.readsAll (I : Inv X pins σ H s) : ∀ (ds : List PyData) (vs : List V) (us : List Value), DpAll X.K H vs ds → Vals vs us → ∃ as, ReadsAll s.heap us ds as
  | [], _, _, h, r => by
    cases h
    cases r
    exact ⟨_, ReadsAll.nil⟩
  | d :: ds, _, _, h, r => by
    cases h with
    | cons h1 h2 =>
      cases r with
      | cons r1 r2 =>
        obtain ⟨as, q1⟩ := Dp.reads I d _ _ h1 r1
        obtain ⟨bs, q2⟩ := Dp.readsAll I ds _ _ h2 r2
        exact ⟨_, ReadsAll.cons q1 q2⟩
end
end
section
variable {X : Cx}
def rEqD (K : PySem.W.Frag) : R2 := fun x y H Q => ∃ d e, Dp K H x d ∧ Dp K H y e ∧ SeqAt.shaped d = true ∧ SeqAt.shaped e = true ∧ Q (.bl (PyData.eqv d e)) H
theorem op_eqD (hu : X.A.units + 64 < cLine) : OpR X (compareOp .Eq) (rEqD X.K) := by
  intro pins s σ H x y v u Q I rx ry h
  obtain ⟨d, e, hd, he, sd, se, q⟩ := h
  obtain ⟨as, r1⟩ := Dp.reads I d x v hd rx
  obtain ⟨bs, r2⟩ := Dp.reads I e y u he ry
  exact SeqAt.compareEq_shaped r1 r2 sd se hu ⟨.bl _, H, I, rfl, q⟩
end
end L2
namespace L2
open PySem PySem.Spec PyProof.Rows
abbrev CellAt (h : Heap) (c : Addr) (v : Option Value) : Prop := h.IsCell c v
def relS (scope sc : Scope) : Scope :=
  { scope with names := scope.names.map fun (n, k) => if (k == .free && sc.kind == .function && sc.names.lookup n == some .cell) then (n, .cell) else (n, k) }
def cloFrom (cells : List (Str × Addr)) : List (Str × NameKind) → List (Str × Addr) → List (Str × Addr)
  | [], acc => acc
  | (n, k) :: r, acc => if k == .free then cloFrom cells r ((n, (cells.lookup n).getD 0) :: acc) else cloFrom cells r acc
theorem closure_loop (env : Env) (f : Str × NameKind → List (Str × Addr) → Sem (ForInStep (List (Str × Addr))))
    (hf : ∀ n k c, f (n, k) c = if k == .free then (do let a ← cellOf env n; pure (.yield ((n, a) :: c))) else pure (.yield c)) :
    ∀ (names : List (Str × NameKind)) (acc : List (Str × Addr)), (∀ y ∈ names, y.2 = .free → ∃ c, env.cells.lookup y.1 = some c) → forIn names acc f = pure (cloFrom env.cells names acc)
  | [], acc, _ => by rw [List.forIn_nil]; rfl
  | (n, k) :: r, acc, h => by
    rw [List.forIn_cons, hf]
    have ih := fun acc => closure_loop env f hf r acc fun y hy => h y (List.mem_cons_of_mem _ hy)
    unfold cloFrom
    by_cases hk : (k == NameKind.free) = true
    · rw [if_pos hk, if_pos hk]
      obtain ⟨c, hc⟩ := h (n, k) List.mem_cons_self (by simpa using hk)
      have e : cellOf env n = pure c := by unfold cellOf; rw [hc]
      rw [e]
      have e2 : (env.cells.lookup n).getD 0 = c := by rw [hc]; rfl
      rw [e2]
      exact ih _
    · rw [if_neg hk, if_neg hk]
      exact ih _
theorem closure_ok {scope : Scope} {env : Env} (h : ∀ y ∈ scope.names, y.2 = .free → ∃ c, env.cells.lookup y.1 = some c) : closureFor scope env = pure (cloFrom env.cells scope.names []) := by
  simp only [closureFor]
  rw [closure_loop env _ (fun n k c => rfl) scope.names [] h]
  rfl
theorem mem_lookup {α : Type} : ∀ {l : List (Str × α)} {n : Str} {c : α}, (n, c) ∈ l → ∃ c', l.lookup n = some c'
  | (k, v) :: r, n, c, h => by
    rw [List.lookup_cons]
    cases hb : n == k with
    | true => exact ⟨_, rfl⟩
    | false =>
      rcases List.mem_cons.mp h with e | h
      · cases e; simp at hb
      · exact mem_lookup h
theorem cloFrom_mem {cells : List (Str × Addr)} : ∀ {names : List (Str × NameKind)} {acc : List (Str × Addr)} {n : Str} {c : Addr}, (n, c) ∈ cloFrom cells names acc → (n, c) ∈ acc ∨ ((n, .free) ∈ names ∧ c = (cells.lookup n).getD 0)
  | [], _, _, _, h => .inl h
  | (m, k) :: r, acc, n, c, h => by
    unfold cloFrom at h
    split at h
    · rename_i hk
      have hk : k = .free := by simpa using hk
      rcases cloFrom_mem h with h | ⟨h1, h2⟩
      · rcases List.mem_cons.mp h with e | h
        · cases e; exact .inr ⟨hk ▸ List.mem_cons_self, rfl⟩
        · exact .inl h
      · exact .inr ⟨List.mem_cons_of_mem _ h1, h2⟩
    · rcases cloFrom_mem h with h | ⟨h1, h2⟩
      · exact .inl h
      · exact .inr ⟨List.mem_cons_of_mem _ h1, h2⟩
theorem cloFrom_acc {cells : List (Str × Addr)} : ∀ {names : List (Str × NameKind)} {acc : List (Str × Addr)} {p : Str × Addr}, p ∈ acc → p ∈ cloFrom cells names acc
  | [], _, _, h => h
  | (m, k) :: r, acc, p, h => by
    unfold cloFrom
    split
    · exact cloFrom_acc (List.mem_cons_of_mem _ h)
    · exact cloFrom_acc h
theorem cloFrom_has {cells : List (Str × Addr)} : ∀ {names : List (Str × NameKind)} {acc : List (Str × Addr)} {n : Str}, (n, .free) ∈ names → (n, (cells.lookup n).getD 0) ∈ cloFrom cells names acc
  | (m, k) :: r, acc, n, h => by
    unfold cloFrom
    rcases List.mem_cons.mp h with e | h
    · cases e
      exact cloFrom_acc List.mem_cons_self
    · split
      · exact cloFrom_has h
      · exact cloFrom_has h
theorem cells_mem : ∀ {names : List (Str × NameKind)} {h : Heap} {acc : List (Str × Addr)} {x : Str} {c : Addr}, (x, c) ∈ cellsFrom h.objs.size names acc →
    (x, c) ∈ acc ∨ ((x, .cell) ∈ names ∧ h.objs.size ≤ c ∧ CellAt (pushCells h names) c none)
  | [], _, _, _, _, h => .inl h
  | (n, k) :: r, h, acc, x, c, hm => by
    unfold cellsFrom at hm
    unfold pushCells
    split at hm
    · rename_i hk
      rw [if_pos hk]
      have hk : k = .cell := by simpa using hk
      rw [← Heap.size_push h { cls := .type "cell", data := .cell none }] at hm
      rcases cells_mem hm with hm | ⟨h1, h2, h3⟩
      · rcases List.mem_cons.mp hm with e | hm
        · cases e
          exact .inr ⟨hk ▸ List.mem_cons_self, Nat.le_refl _, _, pushCells_keeps r _ _ _ (Heap.get?_push_size _ rfl), rfl⟩
        · exact .inl hm
      · rw [Heap.size_push] at h2
        exact .inr ⟨List.mem_cons_of_mem _ h1, Nat.le_of_succ_le h2, h3⟩
    · rename_i hk
      rw [if_neg hk]
      rcases cells_mem hm with hm | ⟨h1, h2, h3⟩
      · exact .inl hm
      · exact .inr ⟨List.mem_cons_of_mem _ h1, h2, h3⟩
theorem cells_acc : ∀ {names : List (Str × NameKind)} {n : Nat} {acc : List (Str × Addr)} {p : Str × Addr}, p ∈ acc → p ∈ cellsFrom n names acc
  | [], _, _, _, h => h
  | (m, k) :: r, n, acc, p, h => by
    unfold cellsFrom
    split
    · exact cells_acc (List.mem_cons_of_mem _ h)
    · exact cells_acc h
theorem cells_has : ∀ {names : List (Str × NameKind)} {n : Nat} {acc : List (Str × Addr)} {x : Str}, (x, .cell) ∈ names → ∃ c, (x, c) ∈ cellsFrom n names acc
  | (m, k) :: r, n, acc, x, h => by
    unfold cellsFrom
    rcases List.mem_cons.mp h with e | h
    · cases e
      exact ⟨n, cells_acc List.mem_cons_self⟩
    · split
      · exact cells_has h
      · exact cells_has h
theorem cells_inj : ∀ {names : List (Str × NameKind)} {h : Heap} {acc : List (Str × Addr)} {x y : Str} {c : Addr}, (∀ p ∈ acc, p.2 < h.objs.size) → (∀ x y c, (x, c) ∈ acc → (y, c) ∈ acc → x = y) →
    (x, c) ∈ cellsFrom h.objs.size names acc → (y, c) ∈ cellsFrom h.objs.size names acc → x = y
  | [], _, _, _, _, _, _, hi, h1, h2 => hi _ _ _ h1 h2
  | (n, k) :: r, h, acc, x, y, c, hl, hi, h1, h2 => by
    unfold cellsFrom at h1 h2
    split at h1
    · rename_i hk
      rw [if_pos hk] at h2
      rw [← Heap.size_push h { cls := .type "cell", data := .cell none }] at h1 h2
      refine cells_inj (h := h.push _) (fun p hp => ?_) (fun x y c a b => ?_) h1 h2
      · rw [Heap.size_push]
        rcases List.mem_cons.mp hp with rfl | hp
        · exact Nat.lt_succ_self _
        · exact Nat.lt_succ_of_lt (hl p hp)
      · rcases List.mem_cons.mp a with e | a <;> rcases List.mem_cons.mp b with e' | b
        · cases e; cases e'; rfl
        · cases e; exact absurd (hl _ b) (Nat.lt_irrefl _)
        · cases e'; exact absurd (hl _ a) (Nat.lt_irrefl _)
        · exact hi _ _ _ a b
    · rename_i hk
      rw [if_neg hk] at h2
      exact cells_inj hl hi h1 h2
theorem newEnv_comp {M : Model} {A : Around} {E : Value → Shared → Prop} {s : Shared} {scope : Scope} {globals : Addr} {closure : List (Str × Addr)} {qual : Str} {func : Option Addr} {code : Value} {around : Env} {builtins : Addr} {Q : Env → Shared → Prop}
    (h : Q (newEnv scope s.heap.objs.size globals (cellsFrom (s.heap.objs.size + 1) scope.names closure) qual func code (some around) builtins)
      { s with heap := pushCells (s.heap.push { cls := .type "dict", data := .dict #[] }) scope.names }) :
    wpAny M A (newFunctionEnv scope globals closure [] qual func code (some around) builtins) Q E s := by
  simp only [newFunctionEnv, Option.isSome_some, if_true]
  refine wpAny_bind (wpAny_alloc ?_)
  refine wpAny_bind (wpAny_layCells _ (fun n k c => rfl) scope.names closure _ _ ?_)
  rw [show ({ s with heap := s.heap.push { cls := .type "dict", data := .dict #[] } } : Shared).heap.objs.size = s.heap.objs.size + 1 from Heap.size_push ..]
  rw [List.forIn_nil]
  exact wpAny_bind (wpAny_pure (wpAny_pure h))
theorem lookup_relS {sc : Scope} : ∀ {names : List (Str × NameKind)} {x : Str} {k : NameKind},
    (names.map fun (n, k) => if (k == NameKind.free && sc.kind == .function && sc.names.lookup n == some .cell) then (n, NameKind.cell) else (n, k)).lookup x = some k →
    ∃ k', names.lookup x = some k' ∧ (k = k' ∨ (k' = .free ∧ k = .cell))
  | [], _, _, h => by simp at h
  | (n, k₀) :: r, x, k, h => by
    have ih := @lookup_relS sc r x k
    have h' : List.lookup x ((if (k₀ == NameKind.free && sc.kind == .function && sc.names.lookup n == some .cell) = true then (n, NameKind.cell) else (n, k₀)) :: (r.map _)) = some k := h
    cases hx : x == n with
    | true =>
      simp only [List.lookup_cons, hx]
      by_cases hc : (k₀ == NameKind.free && sc.kind == .function && sc.names.lookup n == some .cell) = true
      · rw [if_pos hc] at h'
        simp only [List.lookup_cons, hx] at h'
        cases h'
        simp only [Bool.and_eq_true, beq_iff_eq] at hc
        exact ⟨k₀, rfl, .inr ⟨hc.1.1, rfl⟩⟩
      · rw [if_neg hc] at h'
        simp only [List.lookup_cons, hx] at h'
        cases h'
        exact ⟨_, rfl, .inl rfl⟩
    | false =>
      simp only [List.lookup_cons, hx]
      by_cases hc : (k₀ == NameKind.free && sc.kind == .function && sc.names.lookup n == some .cell) = true
      · rw [if_pos hc] at h'
        simp only [List.lookup_cons, hx] at h'
        exact ih h'
      · rw [if_neg hc] at h'
        simp only [List.lookup_cons, hx] at h'
        exact ih h'
structure BlkOk (N : List Str) (sc scope : Scope) (own : List (Str × Nat)) : Prop where
  kind : scope.kind = .function
  uniq : ∀ y ∈ scope.names, scope.names.lookup y.1 = some y.2
  ix : ∀ p ∈ own, N[p.2]? = some p.1
  free : ∀ y ∈ scope.names, y.2 = .free → sc.names.lookup y.1 = some .cell ∨ sc.names.lookup y.1 = some .free
  own : ∀ y ∈ scope.names, y.2 = .local ∨ y.2 = .cell → y.1 ∈ own.map (·.1) ∨ y.1 ∉ N
def wipe (σ : St) : List Nat → St
  | [] => σ
  | v :: vs => (wipe σ vs).set v none
theorem wipe_length (σ : St) : ∀ vs : List Nat, (wipe σ vs).length = σ.length
  | [] => rfl
  | v :: vs => by unfold wipe; rw [List.length_set, wipe_length σ vs]
theorem wipe_some {σ : St} {i : Nat} {x : V} : ∀ {vs : List Nat}, (wipe σ vs)[i]? = some (some x) → σ[i]? = some (some x) ∧ i ∉ vs
  | [], h => ⟨h, by simp⟩
  | v :: vs, h => by
    unfold wipe at h
    by_cases hi : v = i
    · subst hi
      by_cases hv : v < (wipe σ vs).length
      · rw [List.getElem?_set_self hv] at h; cases h
      · rw [List.getElem?_eq_none (by simpa using hv)] at h; cases h
    · rw [List.getElem?_set_ne hi] at h
      obtain ⟨h1, h2⟩ := wipe_some h
      exact ⟨h1, by simp only [List.mem_cons, not_or]; exact ⟨fun e => hi e.symm, h2⟩⟩
abbrev Cx.blk (X : Cx) (s : Shared) (H : Hp) (scope : Scope) (cenv : Env) (fp : List Addr) : Cx := { X with s_0 := s, H_0 := H, env := cenv, outer := X.stack, ex := fp, fn := fun x => scope.names.lookup x == some .cell, pn := [], xe := fun _ _ => False }
section
variable {X : Cx} {pins : List (Addr × Obj)} {σ : St} {H : Hp} {s : Shared}
theorem block_start {scope : Scope} {own : List (Str × Nat)} {fp : List Addr} (I : Inv X pins σ H s) (ok : BlkOk X.N X.env.scope scope own) (hN : X.N.Nodup) (hfp : ∀ b ∈ fp, FpOk X pins H b ∧ b < s.heap.objs.size) :
    Inv (X.blk s H scope (compEnvC scope (cellsFrom (s.heap.objs.size + 1) scope.names (cloFrom X.env.cells scope.names [])) s.heap.objs.size X.env) fp) [] (wipe σ (own.map (·.2))) H { s with heap := pushCells (s.heap.push { cls := .type "dict", data := .dict #[] }) scope.names } := by
  have hfree : ∀ y ∈ scope.names, y.2 = .free → ∃ c, X.env.cells.lookup y.1 = some c := fun y hy e => by
    rcases ok.free y hy e with k | k
    · exact I.ok.has _ (.inl k)
    · exact I.ok.has _ (.inr k)
  generalize hcenv : compEnvC scope (cellsFrom (s.heap.objs.size + 1) scope.names (cloFrom X.env.cells scope.names [])) s.heap.objs.size X.env = cenv
  have kp : ∀ b o, s.heap.get? b = some o → (pushCells (s.heap.push { cls := .type "dict", data := .dict #[] }) scope.names).get? b = some o := fun b o e => pushCells_keeps _ _ _ _ (Heap.get?_push_of_some _ e)
  have hL : cenv.locals = s.heap.objs.size := by rw [← hcenv]; rfl
  have hcl : cenv.cells = cellsFrom (s.heap.objs.size + 1) scope.names (cloFrom X.env.cells scope.names []) := by rw [← hcenv]; rfl
  have hsc : cenv.scope = relS scope X.env.scope := by rw [← hcenv]; rfl
  rw [← Heap.size_push s.heap { cls := .type "dict", data := .dict #[] }] at hcl
  have cm : ∀ {y c}, (y, c) ∈ cloFrom X.env.cells scope.names [] → X.env.cells.lookup y = some c ∧ c < s.heap.objs.size := fun {y c} hm => by
    rcases cloFrom_mem hm with hm | ⟨h1, rfl⟩
    · cases hm
    · obtain ⟨c, hc⟩ := hfree _ h1 rfl
      rw [hc]
      obtain ⟨w, z⟩ := I.cell _ _ hc
      exact ⟨rfl, z.lt⟩
  have mem : ∀ {y c}, cenv.cells.lookup y = some c → (X.env.cells.lookup y = some c ∧ c < s.heap.objs.size) ∨ (s.heap.objs.size + 1 ≤ c ∧ CellAt (pushCells (s.heap.push { cls := .type "dict", data := .dict #[] }) scope.names) c none) := fun {y c} e => by
    rw [hcl] at e
    rcases cells_mem (PySem.mem_of_lookup e) with hm | ⟨_, h2, h3⟩
    · exact .inl (cm hm)
    · rw [Heap.size_push] at h2; exact .inr ⟨h2, h3⟩
  have look : ∀ {y}, scope.names.lookup y = some .free → ∃ c, cenv.cells.lookup y = some c ∧ X.env.cells.lookup y = some c := fun {y} hl => by
    have hy : (y, NameKind.free) ∈ scope.names := PySem.mem_of_lookup hl
    obtain ⟨c', e'⟩ := mem_lookup (cells_acc (names := scope.names) (n := (s.heap.push { cls := .type "dict", data := .dict #[] }).objs.size) (cloFrom_has (cells := X.env.cells) (acc := []) hy))
    rw [← hcl] at e'
    refine ⟨c', e', ?_⟩
    rw [hcl] at e'
    rcases cells_mem (PySem.mem_of_lookup e') with hm | ⟨h1, _, _⟩
    · exact (cm hm).1
    · have := ok.uniq _ h1
      rw [hl] at this; cases this
  have okB : (X.blk s H scope cenv fp).Ok := by
    refine ⟨I.ok.mod, by show cenv.scope.kind = _; rw [hsc]; exact ok.kind, by show cenv.globals = _; rw [← hcenv]; exact I.ok.glob, by show cenv.builtins = _; rw [← hcenv]; exact I.ok.blt, by show s.heap.objs.size ≤ cenv.locals; rw [hL]; exact Nat.le_refl _,
      fun y z c e1 e2 => ?_, fun y hy => ?_, fun y c z e => ?_, I.ok.hd, I.ok.frames, .inl rfl, fun b hb => ⟨?_, fun y c e z => ?_⟩, I.bs, Nat.le_trans I.ok.bsz I.sz, fun b o e hb => ?_, fun b hb z => ?_, I.stack, I.stkFree⟩
    · have e1 : cenv.cells.lookup y = some c := e1
      have e2 : cenv.cells.lookup z = some c := e2
      rw [hcl] at e1 e2
      refine cells_inj (fun p hp => ?_) (fun y z c a b => I.ok.inj y z c (cm a).1 (cm b).1) (PySem.mem_of_lookup e1) (PySem.mem_of_lookup e2)
      rw [Heap.size_push]
      exact Nat.lt_succ_of_lt (cm (y := p.1) (c := p.2) hp).2
    · show ∃ c, cenv.cells.lookup y = some c
      have key : ∀ k, cenv.kindOf y = some k → (k = .cell ∨ k = .free) → ∃ c, cenv.cells.lookup y = some c := fun k hk hk' => by
        unfold Env.kindOf at hk
        rw [hsc] at hk
        obtain ⟨k', e, r⟩ := lookup_relS hk
        have : k' = .cell ∨ k' = .free := by
          rcases r with rfl | ⟨rfl, _⟩
          · exact hk'
          · exact .inr rfl
        rcases this with rfl | rfl
        · obtain ⟨c, hm⟩ := cells_has (n := (s.heap.push { cls := .type "dict", data := .dict #[] }).objs.size) (acc := cloFrom X.env.cells scope.names []) (PySem.mem_of_lookup e)
          obtain ⟨c', e'⟩ := mem_lookup hm
          exact ⟨c', by rw [hcl]; exact e'⟩
        · obtain ⟨c, h1, _⟩ := look e
          exact ⟨c, h1⟩
      rcases hy with hy | hy
      · exact key _ hy (.inl rfl)
      · exact key _ hy (.inr rfl)
    · have z : (scope.names.lookup y == some NameKind.cell) = true := z
      have z : scope.names.lookup y = some .cell := by simpa using z
      have e : cenv.cells.lookup y = some c := e
      rw [hcl] at e
      rcases cells_mem (PySem.mem_of_lookup e) with hm | ⟨_, h2, _⟩
      · rcases cloFrom_mem hm with hm | ⟨h1, _⟩
        · cases hm
        · have q := ok.uniq _ h1
          rw [z] at q; cases q
      · rw [Heap.size_push] at h2
        exact Nat.le_of_succ_le h2
    · show b ≠ cenv.locals
      rw [hL]; exact Nat.ne_of_lt (hfp b hb).2
    · have e : cenv.cells.lookup y = some c := e
      rcases mem e with ⟨h1, _⟩ | ⟨h1, _⟩
      · exact (hfp b hb).1.2.2.2.2.1 y c h1 z
      · have h2 : s.heap.objs.size + 1 ≤ b := by rw [← z]; exact h1
        exact absurd (Nat.lt_of_lt_of_le (hfp b hb).2 (Nat.le_of_succ_le h2)) (Nat.lt_irrefl _)
    · rcases (hfp b hb).1.2.2.2.1 with z | z
      · exact I.ok.noex b o e z
      · exact absurd (Nat.lt_of_lt_of_le (Heap.lt_size e) (Nat.le_trans I.ok.bsz z)) (Nat.lt_irrefl _)
    · rcases List.mem_cons.mp (I.stkSub b z) with z | z
      · exact (hfp b hb).1.2.1 z
      · exact (hfp b hb).1.2.2.1 z
  refine ⟨okB, rfl, I.bare, Un.kept kp, ⟨fun _ => none, ?_, fun i y av e1 e2 e3 => ?_⟩, fun y c e => ?_, ?_, fun y c e => ?_, fun p hp => ?_, I.hok.kept kp, by rw [wipe_length]; exact I.len⟩
  · show Heap.Ns _ cenv.locals _
    rw [hL]
    exact Heap.Ns.keeps (Heap.Ns.new ..) fun b o e => pushCells_keeps _ _ _ _ e
  · obtain ⟨e2, hne⟩ := wipe_some e2
    have hfr : scope.names.lookup y = some .free ∧ (cenv.kindOf y = some .cell ∨ cenv.kindOf y = some .free) := by
      have key : ∀ k, cenv.scope.names.lookup y = some k → k = .local ∨ k = .cell ∨ k = .free → scope.names.lookup y = some .free ∧ (cenv.kindOf y = some .cell ∨ cenv.kindOf y = some .free) := fun k hk hk' => by
        have hk0 := hk
        rw [hsc] at hk
        obtain ⟨k', e, r⟩ := lookup_relS hk
        have no : ¬ (k' = .local ∨ k' = .cell) := fun hh => by
          rcases ok.own _ (PySem.mem_of_lookup e) hh with e' | e'
          · obtain ⟨p, hp, hpy⟩ := List.mem_map.mp e'
            have e3 := ok.ix p hp
            have : p.1 = y := hpy
            rw [this] at e3
            exact hne (List.mem_map.mpr ⟨p, hp, nodup_ix hN e3 e1⟩)
          · exact e' (List.mem_of_getElem? e1)
        rcases r with rfl | ⟨rfl, rfl⟩
        · rcases hk' with rfl | rfl | rfl
          · exact absurd (.inl rfl) no
          · exact absurd (.inr rfl) no
          · exact ⟨e, .inr hk0⟩
        · exact ⟨e, .inl hk0⟩
      have e3 : Vis cenv.scope y := e3
      rcases e3 with e3 | e3 | e3
      · exact key _ e3 (.inl rfl)
      · exact key _ e3 (.inr (.inl rfl))
      · exact key _ e3 (.inr (.inr rfl))
    obtain ⟨m, hn, hl⟩ := I.loc
    have hvis : Vis X.env.scope y := (ok.free _ (PySem.mem_of_lookup hfr.1) rfl).elim (fun k => .inr (.inl k)) (fun k => .inr (.inr k))
    obtain ⟨w, r, q⟩ := hl i y av e1 e2 hvis
    refine ⟨w, r, .inr ⟨hfr.2, ?_⟩⟩
    obtain ⟨c, h1, h2⟩ := look hfr.1
    rcases q with ⟨k, _⟩ | ⟨_, c', e', z⟩
    · have k : X.env.scope.names.lookup y = some .local := k
      rcases ok.free _ (PySem.mem_of_lookup hfr.1) rfl with k' | k' <;> rw [show X.env.scope.names.lookup y = _ from k'] at k <;> cases k
    · rw [h2] at e'; cases e'
      exact ⟨c, h1, z.keeps kp⟩
  · have e : cenv.cells.lookup y = some c := e
    rcases mem e with ⟨h1, _⟩ | ⟨_, z⟩
    · obtain ⟨w, z⟩ := I.cell y c h1
      exact ⟨w, z.keeps kp⟩
    · exact ⟨_, z⟩
  · show H cenv.locals = none
    rw [hL]; exact I.hok.fresh (Nat.le_refl _)
  · have e : cenv.cells.lookup y = some c := e
    rcases mem e with ⟨h1, _⟩ | ⟨h1, _⟩
    · exact I.freeC y c h1
    · exact I.hok.fresh (Nat.le_of_succ_le h1)
  · exact absurd (show p ∈ ([] : List (Addr × Obj)) ++ [] from hp) (by simp)
theorem app_ok {E : Value → Shared → Prop} {D : Addr} {xs : List V} {y : V} {v : Value} {Q : Value → Shared → Prop} (I : Inv X pins σ H s) (hD : H D = some (.lst xs)) (hz : xs.length < sizeLine) (r : RelV y v)
    (h : ∀ s', Inv X pins σ (upd H D (.lst (xs ++ [y]))) s' → Q .none s') : wpAny (model X.prog X.w) X.A (call (.builtin "list.append") [.ref D, v]) Q E s := by
  obtain ⟨hz', its, n, ri, e⟩ := I.hok D _ hD
  have hl := ri.length
  refine append_at (hsz := by rw [List.size_toArray]; omega) e fun h' sb ho' => ?_
  refine h { s with heap := h' } (I.write (t' := s.toks) (by rw [hD]; trivial) (.inl rfl) (fun b u hb q => (sb.2 b hb).trans q) ⟨_, ho'⟩ ⟨by rw [List.length_append]; exact hz, its ++ [v], n + 1, ri.append (.cons r .nil), ?_⟩)
  rw [ho']
  simp
def PTs (X : Cx) (ifs : List Expr) (t : TT) : Prop :=
  ∀ (pins : List (Addr × Obj)) (s : Shared) (σ : St) (H : Hp) (Q : Bool → Hp → Prop), Inv X pins σ H s → t σ H Q →
    wpAny (model X.prog X.w) X.A (forIn ifs true fun c r => if r = true then do let ok ← isTrue c X.env (eval c X.env); pure (ForInStep.yield ok) else pure (ForInStep.yield r)) (TP X pins σ Q) X.xe s
def tYes : TT := fun _ H Q => Q true H
theorem pts_nil : PTs X [] tYes := fun _ _ _ H _ I h => wpAny_tests_nil ⟨H, I, h⟩
theorem pts_one {c : Expr} {t : TT} (h : PT X c t) : PTs X [c] t := fun pins s σ H Q I hw => wpAny_tests_one (h pins s σ H Q I hw)
end
theorem thnF {α : Type} {t : Sem α} {Q Q' : α → Shared → Prop} {M : Model} {A : Around} {E : Value → Shared → Prop} {s : Shared} (h : wpAny M A t Q (fun _ _ => False) s) (hQ : ∀ a s, Q a s → Q' a s) : wpAny M A t Q' E s := wpAny_mono h hQ fun _ _ z => False.elim z
theorem compLoop_any {prog : Program} {w : World} {A : Around} {R : Result → Shared → Prop} {s : Shared} {elt target iter : Expr} {ifs : List Expr} {scope : Scope} {pos : Pos} {it acc : Value} {env : Env} (I : Nat → Shared → Prop)
    (turn : ∀ n s, I n s → wpAny (model prog w) A (pyNext it) (fun r s₁ => match r with
      | none => R (.ok .next) s₁
      | some v => wpAny (model prog w) A (letOwnedTupleGo target it v) (fun _ s₁' => wpAny (model prog w) A (assign target env v) (fun _ s₂ =>
          wpAny (model prog w) A (forIn ifs true fun c r => if r = true then do let ok ← isTrue c env (eval c env); pure (ForInStep.yield ok) else pure (ForInStep.yield r)) (fun ok s₃ =>
            if ok = true then wpAny (model prog w) A (eval elt env) (fun x s₄ =>
              wpAny (model prog w) A (call (.builtin "list.append") [acc, x]) (fun _ s₅ => ∃ m, m < n ∧ I m s₅) (notedBy (model prog w) A env fun e s' => R (.error e) s') s₄) (notedBy (model prog w) A env fun e s' => R (.error e) s') s₃
            else ∃ m, m < n ∧ I m s₃) (notedBy (model prog w) A env fun e s' => R (.error e) s') s₂) (notedBy (model prog w) A env fun e s' => R (.error e) s') s₁') (notedBy (model prog w) A env fun e s' => R (.error e) s') s₁) (notedBy (model prog w) A env fun e s' => R (.error e) s') s)
    (n : Nat) (h : I n s) :
    codeAny (model prog w) A (.compLoop (.ListComp elt [⟨target, iter, ifs, 0⟩] scope pos) 0 it acc env) R s := by
  refine codeAny_loop rfl I (fun n s hI => ?_) n h
  show wpAny _ A ((compTurn (.ListComp elt [⟨target, iter, ifs, 0⟩] scope pos) 0 it acc env).onRaise (fun x => do noteFrame x env; theTreesLotGoes x)) _ _ s
  refine wpAny_noted ?_
  rw [compTurn_list]
  refine wpAny_bind (wpAny_standAt (wpAny_bind (wpAny_mono (turn n s hI) (fun r s₁ h₁ => ?_) fun _ _ h' => h')))
  cases r with
  | none => exact wpAny_pure h₁
  | some v =>
    refine wpAny_bind (wpAny_mono h₁ (fun _ s₁' h₁' => ?_) fun _ _ h' => h')
    refine wpAny_bind (wpAny_mono h₁' (fun _ s₂ h₂ => wpAny_bind (wpAny_mono h₂ (fun ok s₃ h₃ => ?_) fun _ _ h' => h')) fun _ _ h' => h')
    cases ok with
    | false => exact wpAny_pure ⟨rfl, h₃⟩
    | true =>
      exact wpAny_bind (wpAny_bind (wpAny_mono h₃ (fun x s₄ h₄ => wpAny_bind (wpAny_mono h₄ (fun _ s₅ h₅ => wpAny_pure (wpAny_pure ⟨rfl, h₅⟩)) fun _ _ h' => h')) fun _ _ h' => h'))
section
variable {X : Cx}
def tLc (wi : TI) (g : TG) (tt : TT) (te : TE) (vs : List Nat) : TE := fun σ H Q => wi σ H fun J H1 => ∀ D, H1 D = none → ∃ W : Nat → Nat → Hp → Prop, (∃ m, W 0 m (upd H1 D (.lst []))) ∧ ∀ i m H, W i m H →
  (J.stop i H ∧ Q (.ref D) H) ∨ (J.go i H ∧ ∃ Nx : Hp → Prop, (∀ H', Nx H' → ∃ m', m' < m ∧ W (i + 1) m' H') ∧ ∀ x H', J.yld i H x H' → g x (wipe σ vs) H' fun σ2 H2 => wipe σ2 vs = wipe σ vs ∧ tt σ2 H2 fun b H3 =>
    if b = true then te σ2 H3 fun y H4 => ∃ acc, H4 D = some (.lst acc) ∧ acc.length < sizeLine ∧ Nx (upd H4 D (.lst (acc ++ [y]))) else Nx H3)
theorem lc_core {pins : List (Addr × Obj)} {s : Shared} {σ : St} {H : Hp} {Q : VK} {elt tg iter : Expr} {ifs : List Expr} {scope : Scope} {own : List (Str × Nat)} {pos pos' : Pos} {wi : TI} {g : TG} {tt : TT} {te : TE} {use : Option (Value → Sem Unit)} {Qf : Value → Shared → Prop}
    (hc : X.calm = true) (hN : X.N.Nodup) (I : Inv X pins σ H s) (hi : PI X tg iter wi) (ok : BlkOk X.N X.env.scope scope own)
    (hg : ∀ (s : Shared) (H : Hp) (C : Addr) (cl : List (Str × Addr)) (fp : List Addr), PG (X.blk s H scope (compEnvC scope cl C X.env) fp) tg g) (ht : ∀ (s : Shared) (H : Hp) (C : Addr) (cl : List (Str × Addr)) (fp : List Addr), PTs (X.blk s H scope (compEnvC scope cl C X.env) fp) ifs tt)
    (he : ∀ (s : Shared) (H : Hp) (C : Addr) (cl : List (Str × Addr)) (fp : List Addr), PE (X.blk s H scope (compEnvC scope cl C X.env) fp) elt te) (hs : ∀ x, foldedSetIterable iter X.env x = pure x)
    (h : tLc wi g tt te (own.map (·.2)) σ H Q)
    (hRR : ∀ D C s' m H', Inv X pins σ H' s' → Q (.ref D) H' → s'.heap.Ns C m → FpOk X pins H' C → compPost (model X.prog X.w) X.A X.xe use Qf (.ref D) C (.ok .next) s') :
    wpAny (model X.prog X.w) X.A (comprehension (.ListComp elt [⟨tg, iter, ifs, 0⟩] scope pos) scope X.env pos' (newList []) false (eval iter X.env) use) Qf X.xe s := by
  have hfree : ∀ y ∈ scope.names, y.2 = .free → ∃ c, X.env.cells.lookup y.1 = some c := fun y hy e => by
    rcases ok.free y hy e with k | k
    · exact I.ok.has _ (.inl k)
    · exact I.ok.has _ (.inr k)
  refine wpAny_comprehension_free (use := use) rfl hs (closure_ok hfree) ok.kind (fun y hy e => by rw [ok.uniq y hy, e])
    (thn (hi pins s σ H _ I h) fun xv s1 hx => thn hx fun itv s2 h2 => ?_)
  obtain ⟨it, fp, tn, J, H2, e, I2, T, st2, f2, q⟩ := h2
  subst e
  refine wpAny_newObj_type (newEnv_comp ?_) (by show 0 ≤ sizeLine; decide)
  generalize hD : s2.heap.objs.size = D
  have hDn : H2 D = none := I2.hok.fresh (Nat.le_of_eq hD)
  obtain ⟨W, ⟨m0, w0⟩, turn⟩ := q D hDn
  generalize hs3 : ({ s2 with heap := s2.heap.push { cls := .type "list", data := .seq ([] : List Value).toArray } } : Shared) = s3
  have I3 : Inv X pins σ (upd H2 D (.lst [])) s3 := by
    rw [← hs3]
    refine I2.laid (t' := s2.toks) (fun b o e => Heap.get?_push_of_some _ e) (Nat.le_of_eq hD) ⟨Nat.zero_le _, [], 0, .nil, ?_⟩
    rw [← hD]
    exact Heap.get?_push_size _ rfl
  have h3 : s3.heap = s2.heap.push { cls := .type "list", data := .seq ([] : List Value).toArray } := by rw [← hs3]
  have sz : ∀ b ∈ fp, b < s2.heap.objs.size := fun b hb => by
    obtain ⟨o, e, _⟩ := T.obj _ _ st2 b hb
    exact Heap.lt_size e
  have f3 : ∀ b ∈ fp, FpOk X pins (upd H2 D (.lst [])) b ∧ b < s3.heap.objs.size := fun b hb => by
    have hlt := sz b hb
    refine ⟨⟨?_, (f2 b hb).2⟩, by rw [h3, Heap.size_push]; exact Nat.lt_succ_of_lt hlt⟩
    rw [upd_ne (by rw [← hD]; exact Nat.ne_of_lt hlt)]
    exact (f2 b hb).1
  have st3 : tn 0 s3.heap := T.keep _ _ _ st2 fun b _ o e => by rw [h3]; exact Heap.get?_push_of_some _ e
  have I4 := block_start I3 ok hN f3
  have pg := hg s3 (upd H2 D (.lst [])) s3.heap.objs.size (cellsFrom (s3.heap.objs.size + 1) scope.names (cloFrom X.env.cells scope.names [])) fp
  have pt := ht s3 (upd H2 D (.lst [])) s3.heap.objs.size (cellsFrom (s3.heap.objs.size + 1) scope.names (cloFrom X.env.cells scope.names [])) fp
  have pe := he s3 (upd H2 D (.lst [])) s3.heap.objs.size (cellsFrom (s3.heap.objs.size + 1) scope.names (cloFrom X.env.cells scope.names [])) fp
  show codeAny _ _ (.compStart (.ListComp elt [⟨tg, iter, ifs, 0⟩] scope pos) 0 (.ref it) (.ref D) (compEnvC scope (cellsFrom (s3.heap.objs.size + 1) scope.names (cloFrom X.env.cells scope.names [])) s3.heap.objs.size X.env)) (compPost (model X.prog X.w) X.A X.xe use Qf (.ref D) s3.heap.objs.size) { s3 with heap := pushCells (s3.heap.push { cls := .type "dict", data := .dict #[] }) scope.names }
  have nfp : ∀ b ∈ fp, (upd H2 D (.lst [])) b = none := fun b hb => (f3 b hb).1.1
  generalize hce : compEnvC scope (cellsFrom (s3.heap.objs.size + 1) scope.names (cloFrom X.env.cells scope.names [])) s3.heap.objs.size X.env = ce at I4 pg pt pe ⊢
  have cL : ce.locals = s3.heap.objs.size := by subst hce; rfl
  generalize hH3 : upd H2 D (.lst []) = H3 at I3 I4 pg pt pe w0 nfp f3
  generalize hs4 : ({ s3 with heap := pushCells (s3.heap.push { cls := .type "dict", data := .dict #[] }) scope.names } : Shared) = s4 at I4 ⊢
  have st4 : tn 0 s4.heap := T.keep _ _ _ st3 fun b _ o e => by rw [← hs4]; exact pushCells_keeps _ _ _ _ (Heap.get?_push_of_some _ e)
  have stat : ∀ {σ' : St} {H' : Hp} {s' : Shared}, Inv (X.blk s3 H3 scope ce fp) [] σ' H' s' → (∀ b ∈ fp, H' b = none) → ∀ b ∈ fp, FpOk (X.blk s3 H3 scope ce fp) [] H' b := fun {σ' H' s'} I' hn b hb =>
    ⟨hn b hb, (I'.ok.exf b hb).1, I'.ok.exfs b hb, .inl hb, fun x c e => (I'.ok.exf b hb).2 x c e, fun p hp => absurd (show p ∈ ([] : List (Addr × Obj)) ++ [] from hp) (by simp)⟩
  have loop : codeAny (model X.prog X.w) X.A (.compLoop (.ListComp elt [⟨tg, iter, ifs, 0⟩] scope pos) 0 (.ref it) (.ref D) ce) (compPost (model X.prog X.w) X.A X.xe use Qf (.ref D) s3.heap.objs.size) s4 := by
    refine compLoop_any (fun n s' => ∃ i H', Inv (X.blk s3 H3 scope ce fp) [] (wipe σ (own.map (·.2))) H' s' ∧ tn i s'.heap ∧ (∀ b ∈ fp, H' b = none) ∧ W i n H') ?_ m0 ⟨0, H3, I4, st4, nfp, w0⟩
    rintro n s5 ⟨i, H5, I5, st5, n5, w5⟩
    rcases turn i n H5 w5 with ⟨stop, qq⟩ | ⟨go, Nx, hNx, step⟩
    · have td := T.done (X.blk s3 H3 scope ce fp) rfl rfl rfl hc i [] s5 _ H5 (fun _ _ => False) I5 (stat I5 n5) st5 stop
      refine thnF td fun r s6 ⟨hr, I6⟩ => ?_
      subst hr
      have I7 : Inv X pins σ H5 s6 := I3.call' (ch := fp) I6.os I6.base I6.hok I6.bare fun b hb => ⟨(f3 b hb).1.2.2.2.1, (f3 b hb).1.2.1, (f3 b hb).1.2.2.2.2.1, (f3 b hb).1.2.2.2.2.2⟩
      have nC : H5 s3.heap.objs.size = none := by
        have z : H5 ce.locals = none := I6.free
        rw [cL] at z
        exact z
      obtain ⟨m, hn, _⟩ := I6.loc
      have hn : s6.heap.Ns ce.locals m := hn
      rw [cL] at hn
      exact hRR D s3.heap.objs.size s6 m H5 I7 qq hn (I3.fpOk (Nat.le_refl _) nC)
    · have ti := T.item (X.blk s3 H3 scope ce fp) rfl rfl rfl hc i [] s5 _ H5 (fun _ _ => False) I5 (stat I5 n5) st5 go
      refine thnF ti fun r s6 ⟨u, hr, h6⟩ => ?_
      subst hr
      refine thnF h6 fun _ s7 ⟨x, H7, I7, r7, y7, st7, n7⟩ => ?_
      have I7' := I7.pinned (stat I7 n7) (T.obj _ _ st7)
      refine thnF (pg _ s7 _ H7 x u _ I7' r7 (step x H7 y7)) fun _ s8 ⟨σ8, H8, I8, hw8, q8⟩ => ?_
      refine thnF (pt _ s8 σ8 H8 _ I8 q8) fun b s9 ⟨H9, I9, q9⟩ => ?_
      have fin : ∀ {s' : Shared} {H' : Hp}, Inv (X.blk s3 H3 scope ce fp) ([] ++ pinsAt fp s7.heap) σ8 H' s' → Nx H' → ∃ m, m < n ∧ ∃ i H', Inv (X.blk s3 H3 scope ce fp) [] (wipe σ (own.map (·.2))) H' s' ∧ tn i s'.heap ∧ (∀ b ∈ fp, H' b = none) ∧ W i m H' := fun {s' H'} I' nx => by
        obtain ⟨m', hm, w'⟩ := hNx H' nx
        have pin' : ∀ b ∈ fp, ∀ o, s7.heap.get? b = some o → s'.heap.get? b = some o ∧ H' b = none := fun b hb o e =>
          let z := I'.pin (b, o) (List.mem_append_right _ (List.mem_append_right _ (mem_pinsAt hb e)))
          ⟨z.1, z.2.1⟩
        have hl : (wipe σ (own.map (·.2))).length = σ8.length := by rw [← hw8, wipe_length]
        refine ⟨m', hm, i + 1, H', (I'.unpinned (pins := [])).weak hl (fun j v e => ?_), T.keep _ _ _ st7 fun b hb o e => (pin' b hb o e).1, fun b hb => ?_, w'⟩
        · rw [← hw8] at e
          exact (wipe_some e).1
        · obtain ⟨o, e, _⟩ := T.obj _ _ st7 b hb
          exact (pin' b hb o e).2
      cases b with
      | false =>
        simp only [Bool.false_eq_true, if_false] at q9 ⊢
        exact fin I9 q9
      | true =>
        simp only [if_true] at q9 ⊢
        refine thnF (pe _ s9 σ8 H9 _ I9 q9) fun z s10 ⟨yv, H10, I10, r10, acc, hD10, hz10, nx⟩ => ?_
        exact app_ok (X := X.blk s3 H3 scope ce fp) I10 hD10 hz10 r10 fun s11 I11 => fin I11 nx
  exact codeAny_compStart_list loop (T.self X.A 0 _ _ _ st4 loop)
theorem pe_lc {elt tg iter : Expr} {ifs : List Expr} {scope : Scope} {own : List (Str × Nat)} {pos : Pos} {wi : TI} {g : TG} {tt : TT} {te : TE} (hc : X.calm = true) (hN : X.N.Nodup) (hi : PI X tg iter wi) (ok : BlkOk X.N X.env.scope scope own)
    (hg : ∀ (s : Shared) (H : Hp) (C : Addr) (cl : List (Str × Addr)) (fp : List Addr), PG (X.blk s H scope (compEnvC scope cl C X.env) fp) tg g) (ht : ∀ (s : Shared) (H : Hp) (C : Addr) (cl : List (Str × Addr)) (fp : List Addr), PTs (X.blk s H scope (compEnvC scope cl C X.env) fp) ifs tt)
    (he : ∀ (s : Shared) (H : Hp) (C : Addr) (cl : List (Str × Addr)) (fp : List Addr), PE (X.blk s H scope (compEnvC scope cl C X.env) fp) elt te) (hs : ∀ x, foldedSetIterable iter X.env x = pure x := by intro _; rfl) :
    PE X (.ListComp elt [⟨tg, iter, ifs, 0⟩] scope pos) (tLc wi g tt te (own.map (·.2))) := by
  intro pins s σ H Q I h
  rw [eval_ListComp]
  refine lc_core hc hN I hi ok hg ht he hs h fun D C s' m H' I' q hn f => ⟨m, hn, fun h'' sb => ?_⟩
  obtain ⟨f0, f1, f2, f3, f4, f5⟩ := f
  exact ⟨.ref D, H', I'.turned (t' := s'.toks) (fun b o hb e => (sb.2 b hb).trans e) f0 f1 f3 f4 f5, rfl, q⟩
theorem ps_setLc {i : Nat} {y : Str} {py : Pos} {elt tg iter : Expr} {ifs : List Expr} {scope : Scope} {own : List (Str × Nat)} {pos spos : Pos} {wi : TI} {g : TG} {tt : TT} {te : TE} (hc : X.calm = true) (hN : X.N.Nodup) (hy : X.N[i]? = some y) (hyl : X.env.scope.names.lookup y = some .local)
    (hsw : swapsWith (.ListComp elt [⟨tg, iter, ifs, 0⟩] scope pos) (some (.Name y py)) spos.line X.env = pure true) (hi : PI X tg iter wi) (ok : BlkOk X.N X.env.scope scope own)
    (hg : ∀ (s : Shared) (H : Hp) (C : Addr) (cl : List (Str × Addr)) (fp : List Addr), PG (X.blk s H scope (compEnvC scope cl C X.env) fp) tg g) (ht : ∀ (s : Shared) (H : Hp) (C : Addr) (cl : List (Str × Addr)) (fp : List Addr), PTs (X.blk s H scope (compEnvC scope cl C X.env) fp) ifs tt)
    (he : ∀ (s : Shared) (H : Hp) (C : Addr) (cl : List (Str × Addr)) (fp : List Addr), PE (X.blk s H scope (compEnvC scope cl C X.env) fp) elt te) (hs : ∀ x, foldedSetIterable iter X.env x = pure x := by intro _; rfl) :
    PS X (.Assign [.Name y py] (.ListComp elt [⟨tg, iter, ifs, 0⟩] scope pos) spos) (tAsg (tLc wi g tt te (own.map (·.2))) (gName i)) := by
  intro pins s σ H D I h
  rw [exec_Assign_Name_used _ _ _ _ hsw]
  refine wpAny_bind (wpAny_standAt (wpAny_bind ?_))
  show wpAny _ X.A (do let _ ← comprehension (.ListComp elt [⟨tg, iter, ifs, 0⟩] scope pos) scope X.env (firstIterPos [⟨tg, iter, ifs, 0⟩] pos) (newList []) false (eval iter X.env) (some (assign (.Name y py) X.env))) _ _ s
  have h : tLc wi g tt te (own.map (·.2)) σ H (fun x H1 => gName i x σ H1 D.nx) := h
  refine wpAny_bind (thn (lc_core (Qf := fun _ s' => SP X pins D .next s') hc hN I hi ok hg ht he hs h fun L C s' m H' I' q hn f => ?_) fun _ s' hq => wpAny_pure (wpAny_pure hq))
  show wpAny _ _ (assign (.Name y py) X.env (.ref L)) _ _ _
  refine wpAny_assign_Name (store_ok2 (v := V.ref L) I' hN hy (.inl hyl) rfl (fun s2 I2 ⟨a, sb, ha⟩ => ?_) (.inr hyl))
  obtain ⟨f0, f1, f2, f3, f4, f5⟩ := f
  have haC : C ≠ a := by
    rcases ha with z | z
    · rw [z]; exact f1
    · exact fun e => f4 y a z e.symm
  refine ⟨m, hn.sameBut sb haC, fun h3 sb3 => ?_⟩
  exact ⟨_, H', I2.turned (t' := s2.toks) (fun b o hb e => (sb3.2 b hb).trans e) f0 f1 f3 f4 f5, q⟩
theorem sw_true {elt : Expr} {gs : List Comprehension} {scope : Scope} {pos py : Pos} {y : Str} {l : Nat} {env : Env} (hk : env.scope.kind = .function) (hy : env.scope.names.lookup y = some .local) (hl : (py.line == pos.line) = true)
    (ha : (scope.names.any fun (n, k) => n == y && (k == .local || k == .cell)) = false) : swapsWith (.ListComp elt gs scope pos) (some (.Name y py)) l env = pure true := by
  have ky : env.kindOf y = some .local := hy
  have hb : env.blockKind = .function := by unfold Env.blockKind; rw [hk]; rfl
  unfold swapsWith
  simp only [hb, ky, ha, Expr.pos, hl]
  rfl
end
theorem lc_range {lo : Int} {n : Nat} {g : TG} {tt : TT} {te : TE} {vs : List Nat} {σ : St} {H1 : Hp} {D : Addr} {Qd : Hp → Prop} (Pv : Nat → Hp → Prop) (h0 : Pv 0 (upd H1 D (.lst [])))
    (hs : ∀ i H, i < n → Pv i H → g (.int (lo + i)) (wipe σ vs) H fun σ2 H2 => wipe σ2 vs = wipe σ vs ∧ tt σ2 H2 fun b H3 =>
      if b = true then te σ2 H3 fun y H4 => ∃ acc, H4 D = some (.lst acc) ∧ acc.length < sizeLine ∧ Pv (i + 1) (upd H4 D (.lst (acc ++ [y]))) else Pv (i + 1) H3) (hd : ∀ H, Pv n H → Qd H) :
    ∃ W : Nat → Nat → Hp → Prop, (∃ m, W 0 m (upd H1 D (.lst []))) ∧ ∀ i m H, W i m H →
      ((Itr lo n).stop i H ∧ Qd H) ∨ ((Itr lo n).go i H ∧ ∃ Nx : Hp → Prop, (∀ H', Nx H' → ∃ m', m' < m ∧ W (i + 1) m' H') ∧ ∀ x H', (Itr lo n).yld i H x H' → g x (wipe σ vs) H' fun σ2 H2 => wipe σ2 vs = wipe σ vs ∧ tt σ2 H2 fun b H3 =>
        if b = true then te σ2 H3 fun y H4 => ∃ acc, H4 D = some (.lst acc) ∧ acc.length < sizeLine ∧ Nx (upd H4 D (.lst (acc ++ [y]))) else Nx H3) := by
  refine ⟨fun i m H => m = n - i ∧ i ≤ n ∧ Pv i H, ⟨n, by simp, Nat.zero_le _, h0⟩, ?_⟩
  rintro i m H ⟨rfl, hi, p⟩
  by_cases hlt : i < n
  · refine .inr ⟨hlt, Pv (i + 1), fun H' p' => ⟨n - (i + 1), by omega, rfl, hlt, p'⟩, fun x H' y => ?_⟩
    obtain ⟨e, y⟩ := y
    subst e y
    exact hs i _ hlt p
  · have e : i = n := by omega
    subst e
    exact .inl ⟨Nat.le_refl _, hd H p⟩
theorem lc_list {K : PySem.W.Frag} {a : Addr} {xs : List V} {g : TG} {tt : TT} {te : TE} {vs : List Nat} {σ : St} {H1 : Hp} {D : Addr} {Qd : Hp → Prop} (Pv : Nat → Hp → Prop) (h0 : Pv 0 (upd H1 D (.lst []))) (hl : ∀ i H, i ≤ xs.length → Pv i H → SqL K H a xs)
    (hs : ∀ i x H, xs[i]? = some x → Pv i H → g x (wipe σ vs) H fun σ2 H2 => wipe σ2 vs = wipe σ vs ∧ tt σ2 H2 fun b H3 =>
      if b = true then te σ2 H3 fun y H4 => ∃ acc, H4 D = some (.lst acc) ∧ acc.length < sizeLine ∧ Pv (i + 1) (upd H4 D (.lst (acc ++ [y]))) else Pv (i + 1) H3) (hd : ∀ H, Pv xs.length H → Qd H) :
    ∃ W : Nat → Nat → Hp → Prop, (∃ m, W 0 m (upd H1 D (.lst []))) ∧ ∀ i m H, W i m H →
      ((Itl K a).stop i H ∧ Qd H) ∨ ((Itl K a).go i H ∧ ∃ Nx : Hp → Prop, (∀ H', Nx H' → ∃ m', m' < m ∧ W (i + 1) m' H') ∧ ∀ x H', (Itl K a).yld i H x H' → g x (wipe σ vs) H' fun σ2 H2 => wipe σ2 vs = wipe σ vs ∧ tt σ2 H2 fun b H3 =>
        if b = true then te σ2 H3 fun y H4 => ∃ acc, H4 D = some (.lst acc) ∧ acc.length < sizeLine ∧ Nx (upd H4 D (.lst (acc ++ [y]))) else Nx H3) := by
  refine ⟨fun i m H => m = xs.length - i ∧ i ≤ xs.length ∧ Pv i H, ⟨xs.length, by simp, Nat.zero_le _, h0⟩, ?_⟩
  rintro i m H ⟨rfl, hi, p⟩
  have q := hl i H hi p
  by_cases hlt : i < xs.length
  · refine .inr ⟨⟨xs, xs[i], q, by simp [hlt]⟩, Pv (i + 1), fun H' p' => ⟨xs.length - (i + 1), by omega, rfl, hlt, p'⟩, fun x H' y => ?_⟩
    obtain ⟨e, y⟩ := y
    subst e
    exact hs i x _ (y xs q) p
  · have e : i = xs.length := by omega
    subst e
    exact .inl ⟨⟨xs, q, Nat.le_refl _⟩, hd H p⟩
def blkC (N : List Str) (sc scope : Scope) (own : List (Str × Nat)) : Bool :=
  (match scope.kind with | .function => true | _ => false) && (scope.names.all fun y => decide (scope.names.lookup y.1 = some y.2)) && (own.all fun p => decide (N[p.2]? = some p.1)) &&
    (scope.names.all fun y => match y.2 with
      | .free => (match sc.names.lookup y.1 with | some .cell => true | some .free => true | _ => false)
      | .local => decide (y.1 ∈ own.map (·.1)) || decide (y.1 ∉ N)
      | .cell => decide (y.1 ∈ own.map (·.1)) || decide (y.1 ∉ N)
      | _ => true)
theorem blkOk_by {N : List Str} {sc scope : Scope} {own : List (Str × Nat)} (h : blkC N sc scope own = true) : BlkOk N sc scope own := by
  unfold blkC at h
  simp only [Bool.and_eq_true, List.all_eq_true, decide_eq_true_eq] at h
  obtain ⟨⟨⟨h1, h2⟩, h3⟩, h4⟩ := h
  refine ⟨?_, h2, h3, fun y hy e => ?_, fun y hy e => ?_⟩
  · split at h1
    · assumption
    · cases h1
  · have q := h4 y hy
    simp only [e] at q
    split at q <;> first | exact .inl (by assumption) | exact .inr (by assumption) | cases q
  · have q := h4 y hy
    rcases e with e | e <;> (simp only [e, Bool.or_eq_true, decide_eq_true_eq] at q; exact q)
end L2
namespace L2
open PySem PySem.Spec PyProof.Rows
section
variable {prog : Program} {w : World} {A : Around} {R : Result → Shared → Prop} {s : Shared} {elt t0 i0 t1 i1 : Expr} {ifs0 ifs1 : List Expr} {scope : Scope} {pos : Pos} {it acc : Value} {env : Env}
end
section
variable {X : Cx}
end
end L2
namespace L2
open PySem PySem.Spec PyProof.Rows
section
variable {κ : Type} [DecidableEq κ]
def valV (kvs : List (κ × V)) (k : κ) : Option V := (kvs.find? fun kv => decide (kv.1 = k)).map (·.2)
def putK (kvs : List (κ × V)) (k : κ) (v : V) : List (κ × V) :=
  if (kvs.any fun kv => decide (kv.1 = k)) = true then kvs.map (fun kv => if kv.1 = k then (kv.1, v) else kv) else kvs ++ [(k, v)]
def dropK (kvs : List (κ × V)) (k : κ) : List (κ × V) := kvs.filter fun kv => decide (kv.1 ≠ k)
theorem valV_pos {p : κ × V} {r : List (κ × V)} {k : κ} (e : p.1 = k) : valV (p :: r) k = some p.2 := by simp [valV, List.find?_cons, e]
theorem valV_neg {p : κ × V} {r : List (κ × V)} {k : κ} (e : ¬ p.1 = k) : valV (p :: r) k = valV r k := by simp [valV, List.find?_cons, e]
theorem valV_any (k : κ) : ∀ kvs : List (κ × V), (kvs.any fun kv => decide (kv.1 = k)) = (valV kvs k).isSome
  | [] => rfl
  | p :: r => by
    rw [List.any_cons]
    by_cases e : p.1 = k
    · simp only [valV_pos e, decide_eq_true e, Bool.true_or, Option.isSome_some]
    · rw [valV_neg e, decide_eq_false e, Bool.false_or]; exact valV_any k r
theorem valV_map (k j : κ) (y : V) : ∀ kvs : List (κ × V), valV (kvs.map fun kv => if kv.1 = k then (kv.1, y) else kv) j = (valV kvs j).map fun x => if j = k then y else x
  | [] => rfl
  | p :: r => by
    have ih := valV_map k j y r
    rw [List.map_cons]
    by_cases h : p.1 = k
    · rw [if_pos h]
      by_cases e : p.1 = j
      · rw [valV_pos (p := (p.1, y)) e, valV_pos e, Option.map_some, if_pos (e.symm.trans h)]
      · rw [valV_neg (p := (p.1, y)) e, valV_neg e, ih]
    · rw [if_neg h]
      by_cases e : p.1 = j
      · rw [valV_pos (p := p) e, valV_pos e, Option.map_some, if_neg (fun z => h (e.trans z))]
      · rw [valV_neg (p := p) e, valV_neg e, ih]
theorem valV_snoc (k j : κ) (y : V) : ∀ kvs : List (κ × V), valV kvs k = none → valV (kvs ++ [(k, y)]) j = if j = k then some y else valV kvs j
  | [], _ => by
    by_cases e : k = j
    · rw [if_pos e.symm]; exact valV_pos (p := (k, y)) e
    · rw [if_neg (fun z => e z.symm)]; exact valV_neg (p := (k, y)) e
  | p :: r, hn => by
    rw [List.cons_append]
    have hk : ¬ p.1 = k := fun z => by rw [valV_pos z] at hn; cases hn
    rw [valV_neg hk] at hn
    have ih := valV_snoc k j y r hn
    by_cases e : p.1 = j
    · rw [valV_pos e, valV_pos e, if_neg (fun z => hk (e.trans z))]
    · rw [valV_neg e, valV_neg e, ih]
theorem valV_put (kvs : List (κ × V)) (k j : κ) (y : V) : valV (putK kvs k y) j = if j = k then some y else valV kvs j := by
  unfold putK
  by_cases a : (kvs.any fun kv => decide (kv.1 = k)) = true
  · rw [if_pos a, valV_map]
    rw [valV_any] at a
    by_cases e : j = k
    · obtain ⟨x, hx⟩ := Option.isSome_iff_exists.mp a
      rw [if_pos e, e, hx, Option.map_some, if_pos rfl]
    · rw [if_neg e]
      cases valV kvs j with
      | none => rfl
      | some x => rw [Option.map_some, if_neg e]
  · rw [if_neg a]
    refine valV_snoc k j y kvs ?_
    rw [valV_any] at a
    cases q : valV kvs k with
    | none => rfl
    | some x => rw [q] at a; exact (a rfl).elim
theorem length_putK (kvs : List (κ × V)) (k : κ) (v : V) : (putK kvs k v).length ≤ kvs.length + 1 := by
  unfold putK
  split
  · rw [List.length_map]; omega
  · rw [List.length_append, List.length_cons, List.length_nil]; omega
theorem putK_new {kvs : List (κ × V)} {k : κ} (v : V) (h : valV kvs k = none) : putK kvs k v = kvs ++ [(k, v)] := by
  unfold putK
  rw [valV_any, h]
  exact if_neg (by decide)
theorem RelO.isSome_eq {o : Option V} {u : Option Value} (r : RelO o u) : o.isSome = u.isSome := by
  cases o with
  | none => cases u with
    | none => rfl
    | some _ => exact (show False from r).elim
  | some _ => cases u with
    | none => exact (show False from r).elim
    | some _ => rfl
theorem RelO.getD {o : Option V} {u : Option Value} {d : V} {d' : Value} (r : RelO o u) (rd : RelV d d') : RelV (o.getD d) (u.getD d') := by
  cases o with
  | none => cases u with
    | none => exact rd
    | some _ => exact (show False from r).elim
  | some _ => cases u with
    | none => exact (show False from r).elim
    | some _ => exact r
theorem KV.val {kvs : List (κ × V)} {vs : List (κ × Value)} (r : KV kvs vs) (k : κ) : RelO (valV kvs k) (valueAt vs k) := by
  unfold KV at r
  induction r with
  | nil => exact True.intro
  | @cons p q ps qs h t ih =>
    obtain ⟨h1, h2⟩ := h
    by_cases e : p.1 = k
    · have e' : q.1 = k := h1.symm.trans e
      have b : valueAt (q :: qs) k = some q.2 := by simp [valueAt, List.find?_cons, e']
      rw [valV_pos e, b]; exact h2
    · have e' : ¬ q.1 = k := fun z => e (h1.trans z)
      have b : valueAt (q :: qs) k = valueAt qs k := by simp [valueAt, List.find?_cons, e']
      rw [valV_neg e, b]; exact ih
theorem KV.any {kvs : List (κ × V)} {vs : List (κ × Value)} (r : KV kvs vs) (k : κ) : (kvs.any fun kv => decide (kv.1 = k)) = vs.any fun kv => decide (kv.1 = k) := by
  unfold KV at r
  induction r with
  | nil => rfl
  | cons h t ih => rw [List.any_cons, List.any_cons, ih, h.1]
theorem KV.repl {kvs : List (κ × V)} {vs : List (κ × Value)} (r : KV kvs vs) (k : κ) {y : V} {u : Value} (ry : RelV y u) :
    KV (kvs.map fun kv => if kv.1 = k then (kv.1, y) else kv) (vs.map fun kv => if kv.1 = k then (kv.1, u) else kv) := by
  unfold KV at r ⊢
  induction r with
  | nil => exact .nil
  | @cons p q ps qs h t ih =>
    rw [List.map_cons, List.map_cons]
    refine .cons ?_ ih
    obtain ⟨h1, h2⟩ := h
    by_cases e : p.1 = k
    · rw [if_pos e, if_pos (h1.symm.trans e)]; exact ⟨h1, ry⟩
    · rw [if_neg e, if_neg (fun z => e (h1.trans z))]; exact ⟨h1, h2⟩
theorem KV.put {kvs : List (κ × V)} {vs : List (κ × Value)} (r : KV kvs vs) (k : κ) {y : V} {u : Value} (ry : RelV y u) : KV (putK kvs k y) (stored vs k u) := by
  unfold putK stored
  rw [r.any k]
  by_cases e : (vs.any fun kv => decide (kv.1 = k)) = true
  · rw [if_pos e, if_pos e]; exact r.repl k ry
  · rw [if_neg e, if_neg e]; exact Paired.snoc r ⟨rfl, ry⟩
theorem KV.drop {kvs : List (κ × V)} {vs : List (κ × Value)} (r : KV kvs vs) (k : κ) : KV (dropK kvs k) (without vs k) := by
  unfold KV at r ⊢
  unfold dropK without
  induction r with
  | nil => exact .nil
  | @cons p q ps qs h t ih =>
    obtain ⟨h1, h2⟩ := h
    rw [List.filter_cons, List.filter_cons]
    by_cases e : p.1 = k
    · have a : ¬ decide (p.1 ≠ k) = true := by simp [e]
      have b : ¬ decide (q.1 ≠ k) = true := by simp [h1.symm.trans e]
      rw [if_neg a, if_neg b]; exact ih
    · have e' : ¬ q.1 = k := fun z => e (h1.trans z)
      have a : decide (p.1 ≠ k) = true := by simp [e]
      have b : decide (q.1 ≠ k) = true := by simp [e']
      rw [if_pos a, if_pos b]; exact .cons ⟨h1, h2⟩ ih
theorem KV.length {kvs : List (κ × V)} {vs : List (κ × Value)} (r : KV kvs vs) : kvs.length = vs.length := Paired.length r
theorem dropK_le (kvs : List (κ × V)) (k : κ) : (dropK kvs k).length ≤ kvs.length := List.length_filter_le _ _
end
theorem kV_is {P : Program} {w : World} {k : Key} {u : Value} (r : RelV (kV k) u) : (mixKind P w).is k u = true := by
  cases k with
  | inl i => obtain ⟨t, e⟩ := (show ∃ t, u = Value.int i t from r); subst e; exact mixKind_int P w i t
  | inr x => obtain ⟨t, e⟩ := (show ∃ t, u = Value.str x t from r); subst e; exact mixKind_str P w x t
theorem items_are {P : Program} {w : World} : ∀ {ks : List Key} {us : List Value}, Vals (ks.map kV) us → ItemsAre (mixKind P w) ks us
  | [], _, r => by rw [List.map_nil] at r; cases r; exact .nil
  | k :: ks, _, r => by
    rw [List.map_cons] at r
    cases r with
    | cons h t => exact .cons (kV_is h) (items_are t)
abbrev KT (H : Hp) : List (List Key × V) → List (List Key × Addr × Value) → Prop := Paired fun p q => p.1 = q.1 ∧ H q.2.1 = some (.tup (p.1.map kV)) ∧ RelV p.2 q.2.2
theorem KT.val {H : Hp} {kvs : List (List Key × V)} {xs : List (List Key × Addr × Value)} (r : KT H kvs xs) (k : List Key) : RelO (valV kvs k) ((atKey xs k).map (·.2)) := by
  induction r with
  | nil => exact True.intro
  | @cons p q ps qs h t ih =>
    obtain ⟨h1, _, h2⟩ := h
    by_cases e : p.1 = k
    · have e' : q.1 = k := h1.symm.trans e
      have b : atKey (q :: qs) k = some q.2 := by simp [atKey, List.find?_cons, e']
      rw [valV_pos e, b]; exact h2
    · have e' : ¬ q.1 = k := fun z => e (h1.trans z)
      have b : atKey (q :: qs) k = atKey qs k := by simp [atKey, List.find?_cons, e']
      rw [valV_neg e, b]; exact ih
theorem KT.repl {H : Hp} {kvs : List (List Key × V)} {xs : List (List Key × Addr × Value)} (r : KT H kvs xs) (k : List Key) {y : V} {u : Value} (ry : RelV y u) :
    KT H (kvs.map fun kv => if kv.1 = k then (kv.1, y) else kv) (xs.map (putAt k u)) := by
  induction r with
  | nil => exact .nil
  | @cons p q ps qs h t ih =>
    rw [List.map_cons, List.map_cons]
    refine .cons ?_ ih
    obtain ⟨h1, h2, h3⟩ := h
    unfold putAt
    by_cases e : p.1 = k
    · rw [if_pos e, if_pos (h1.symm.trans e)]; exact ⟨h1, h2, ry⟩
    · rw [if_neg e, if_neg (fun z => e (h1.trans z))]; exact ⟨h1, h2, h3⟩
theorem KT.put {H : Hp} {kvs : List (List Key × V)} {xs : List (List Key × Addr × Value)} (r : KT H kvs xs) (k : List Key) {b : Addr} {y : V} {u : Value} (hb : H b = some (.tup (k.map kV))) (ry : RelV y u) :
    KT H (putK kvs k y) (storedH xs k b u) := by
  have e : (kvs.any fun kv => decide (kv.1 = k)) = (atKey xs k).isSome := by
    rw [valV_any, (r.val k).isSome_eq, Option.isSome_map]
  unfold putK storedH
  rw [e]
  by_cases q : (atKey xs k).isSome = true
  · rw [if_pos q, if_pos q]; exact r.repl k ry
  · rw [if_neg q, if_neg q]; exact Paired.snoc r ⟨rfl, hb, ry⟩
theorem KT.keeps {H H' : Hp} {kvs : List (List Key × V)} {xs : List (List Key × Addr × Value)} (r : KT H kvs xs) (ht : ∀ b ys, H b = some (.tup ys) → H' b = some (.tup ys)) : KT H' kvs xs :=
  Paired.mapP r fun _ _ z => ⟨z.1, ht _ _ z.2.1, z.2.2⟩
section
variable {P : Program} {w : World} {H : Hp} {h : Heap} {a : Addr}
theorem rd_of {u : HO} (ok : HOk P w H h) (e : Rd H a u) : ObjOk P w H h a u := e.ok ok
theorem dk_rd {kvs : List (Key × V)} (ok : HOk P w H h) (e : Rd H a (.dK kvs)) : kvs.length ≤ sizeLine ∧ (a == sysModules) = false ∧ ∃ vs, KV kvs vs ∧ h.DictOf (mixKind P w) a vs :=
  show ObjOk P w H h a (.dK kvs) from rd_of ok e
theorem dk_of {kvs : List (Key × V)} (ok : HOk P w H h) (e : H a = some (.dK kvs)) : kvs.length ≤ sizeLine ∧ (a == sysModules) = false ∧ ∃ vs, KV kvs vs ∧ h.DictOf (mixKind P w) a vs := dk_rd ok (.inl e)
theorem key_of {ks : List Key} (ok : HOk P w H h) (e : H a = some (.tup (ks.map kV))) : (tupleKind (mixKind P w)).is h ks a := by
  obtain ⟨_, its, r, o, h1, h2, n, h3⟩ := (show ObjOk P w H h a (.tup (ks.map kV)) from ok a _ e)
  exact ⟨o, its.toArray, n, h1, h2, h3, by simpa using items_are r⟩
theorem dt_rd {kvs : List (List Key × V)} (ok : HOk P w H h) (e : Rd H a (.dT kvs)) : kvs.length ≤ sizeLine ∧ (a == sysModules) = false ∧
    ∃ xs, KT H kvs xs ∧ h.DictOfH (tupleKind (mixKind P w)) a xs := by
  obtain ⟨z, y, xs, r, o, es, ep, h1, h2, h3, h4, h5⟩ := (show ObjOk P w H h a (.dT kvs) from rd_of ok e)
  refine ⟨z, y, xs, r, o, es, ep, h1, h2, h3, h4, fun x hx => ?_, h5⟩
  have all : ∀ {l : List (List Key × V)} {m : List (List Key × Addr × Value)}, KT H l m → ∀ x ∈ m, (tupleKind (mixKind P w)).is h x.1 x.2.1 := by
    intro l m q
    induction q with
    | nil => intro x hx; exact nomatch hx
    | @cons p q ps qs hq t ih =>
      intro x hx
      rcases List.mem_cons.mp hx with e | hx
      · subst e
        exact key_of ok (by rw [← hq.1]; exact hq.2.1)
      · exact ih x hx
  exact all r x hx
theorem dt_of {kvs : List (List Key × V)} (ok : HOk P w H h) (e : H a = some (.dT kvs)) : kvs.length ≤ sizeLine ∧ (a == sysModules) = false ∧
    ∃ xs, KT H kvs xs ∧ h.DictOfH (tupleKind (mixKind P w)) a xs := dt_rd ok (.inl e)
end
def DGet (H : Hp) (a : Addr) (y : V) (r : Option V) : Prop :=
  (∃ kvs k, Rd H a (.dK kvs) ∧ y = kV k ∧ r = valV kvs k) ∨ ∃ kvs k b, Rd H a (.dT kvs) ∧ y = .ref b ∧ H b = some (.tup (k.map kV)) ∧ r = valV kvs k
def DPut (H : Hp) (a : Addr) (y v : V) (H' : Hp) : Prop :=
  (∃ kvs k, H a = some (.dK kvs) ∧ y = kV k ∧ kvs.length < sizeLine ∧ H' = upd H a (.dK (putK kvs k v))) ∨
  ∃ kvs k b, H a = some (.dT kvs) ∧ y = .ref b ∧ H b = some (.tup (k.map kV)) ∧ kvs.length < sizeLine ∧ H' = upd H a (.dT (putK kvs k v))
theorem DGet.k {H : Hp} {a : Addr} {kvs : List (Key × V)} {k : Key} (e : H a = some (.dK kvs)) : DGet H a (kV k) (valV kvs k) := .inl ⟨kvs, k, .inl e, rfl, rfl⟩
theorem DPut.k {H : Hp} {a : Addr} {kvs : List (Key × V)} {k : Key} {v : V} (e : H a = some (.dK kvs)) (hl : kvs.length < sizeLine) : DPut H a (kV k) v (upd H a (.dK (putK kvs k v))) := .inl ⟨kvs, k, e, rfl, hl, rfl⟩
section
variable {X : Cx} {pins : List (Addr × Obj)} {σ : St} {H : Hp} {s : Shared} {a : Addr} {y v : V} {u r : Value} {o : Option V} {A : Around} {E : Value → Shared → Prop}
theorem Inv.big (I : Inv X pins σ H s) : sysModules < s.heap.objs.size := by
  have h : mainGlobals < s.heap.objs.size := (I.mod.glob.keeps I.bk).lt
  exact Nat.lt_trans (by decide) h
theorem d_getItem {Q : Value → Shared → Prop} (hu : A.units + 1 < cLine) (I : Inv X pins σ H s) (g : DGet H a y (some v)) (ry : RelV y u) (h : ∀ w' s', Inv X pins σ H s' → RelV v w' → Q w' s') :
    wpAny (model X.prog X.w) A (getItem (.ref a) u) Q E s := by
  rcases g with ⟨kvs, k, e, ey, l⟩ | ⟨kvs, k, b, e, ey, eb, l⟩
  · subst ey
    obtain ⟨z, hd, vs, rel, dd⟩ := dk_rd I.hok e
    obtain ⟨w', hw, rw'⟩ := RelO.some_of (v := v) (o := valueAt vs k) (by rw [l]; exact rel.val k)
    exact wpAny_getItem_of (kV_is ry) dd.mapOf hw (h w' _ (I.tok _) rw')
  · subst ey
    cases (show u = Value.ref b from ry)
    obtain ⟨z, hd, xs, rel, dd⟩ := dt_rd I.hok e
    obtain ⟨w', hw, rw'⟩ := RelO.some_of (v := v) (o := (atKey xs k).map (·.2)) (by rw [l]; exact rel.val k)
    obtain ⟨p, hp, hp2⟩ := Option.map_eq_some_iff.mp hw
    refine wpAny_getItem_heap (tupleKind_room_in1 hu) (key_of I.hok eb) dd hp ?_
    rw [hp2]
    exact h w' _ (I.tok _) rw'
theorem d_in {Q : Value → Shared → Prop} (hu : A.units + 1 < cLine) (I : Inv X pins σ H s) (g : DGet H a y o) (ry : RelV y u) (h : ∀ s', Inv X pins σ H s' → Q (.bool o.isSome) s') :
    wpAny (model X.prog X.w) A (compareOp .In u (.ref a)) Q E s := by
  rcases g with ⟨kvs, k, e, ey, l⟩ | ⟨kvs, k, b, e, ey, eb, l⟩
  · subst ey
    obtain ⟨z, hd, vs, rel, dd⟩ := dk_rd I.hok e
    refine wpAny_in_of (kV_is ry) hd dd.mapOf ?_
    rw [← (rel.val k).isSome_eq, ← l]
    exact h _ (I.tok _)
  · subst ey
    cases (show u = Value.ref b from ry)
    obtain ⟨z, hd, xs, rel, dd⟩ := dt_rd I.hok e
    refine wpAny_in_heap (tupleKind_room_in1 hu) (key_of I.hok eb) hd dd ?_
    have q := (rel.val k).isSome_eq
    rw [Option.isSome_map] at q
    rw [← q, ← l]
    exact h _ (I.tok _)
theorem d_notIn {Q : Value → Shared → Prop} (hu : A.units + 1 < cLine) (I : Inv X pins σ H s) (g : DGet H a y o) (ry : RelV y u) (h : ∀ s', Inv X pins σ H s' → Q (.bool (!o.isSome)) s') :
    wpAny (model X.prog X.w) A (compareOp .NotIn u (.ref a)) Q E s := by
  rcases g with ⟨kvs, k, e, ey, l⟩ | ⟨kvs, k, b, e, ey, eb, l⟩
  · subst ey
    obtain ⟨z, hd, vs, rel, dd⟩ := dk_rd I.hok e
    refine wpAny_notIn_of (kV_is ry) hd dd.mapOf ?_
    rw [← (rel.val k).isSome_eq, ← l]
    exact h _ (I.tok _)
  · subst ey
    cases (show u = Value.ref b from ry)
    obtain ⟨z, hd, xs, rel, dd⟩ := dt_rd I.hok e
    refine wpAny_notIn_heap (tupleKind_room_in1 hu) (key_of I.hok eb) hd dd ?_
    have q := (rel.val k).isSome_eq
    rw [Option.isSome_map] at q
    rw [← q, ← l]
    exact h _ (I.tok _)
theorem d_write {h' : Heap} {t' : Nat} {ob : HO} (I : Inv X pins σ H s) (mu : Mut (H a)) (hs : Heap.SameBut a s.heap h') (he : ∃ q, h'.get? a = some q) (new : ObjOk X.prog X.w (upd H a ob) h' a ob) :
    Inv X pins σ (upd H a ob) { s with heap := h', toks := t' } :=
  I.write (x := a) (e := a) mu (.inl rfl) (fun b q hb z => (hs.2 b hb).trans z) he new
theorem dk_new {P : Program} {w : World} {H' : Hp} {h' : Heap} {kvs : List (Key × V)} {vs : List (Key × Value)} (z : kvs.length ≤ sizeLine) (hd : (a == sysModules) = false) (rel : KV kvs vs) (dd : h'.DictOf (mixKind P w) a vs) :
    ObjOk P w H' h' a (.dK kvs) := ⟨z, hd, vs, rel, dd⟩
theorem d_setItem {H' : Hp} {Q : Unit → Shared → Prop} (hu : A.units + 1 < cLine) (I : Inv X pins σ H s) (g : DPut H a y v H') (ry : RelV y u) (rv : RelV v r) (h : ∀ s', Inv X pins σ H' s' → Q () s') :
    wpAny (model X.prog X.w) A (setItem (.ref a) u r) Q E s := by
  rcases g with ⟨kvs, k, e, ey, l, eH⟩ | ⟨kvs, k, b, e, ey, eb, l, eH⟩
  · subst ey eH
    obtain ⟨z, hd, vs, rel, dd⟩ := dk_of I.hok e
    have hz : vs.length ≤ sizeLine := by rw [← rel.length]; exact z
    have hl : (putK kvs k v).length ≤ sizeLine := by have := length_putK kvs k v; omega
    refine wpAny_setItem_pairs (hsz := hz) (kV_is ry) dd fun h' dd' hs => h _ ?_
    have he : ∃ q, h'.get? a = some q := let ⟨q, _, _, hq, _⟩ := dd'; ⟨q, hq⟩
    exact d_write I (by rw [e]; exact True.intro) hs he (dk_new hl hd (rel.put k rv) dd')
  · subst ey eH
    cases (show u = Value.ref b from ry)
    obtain ⟨z, hd, xs, rel, dd⟩ := dt_of I.hok e
    have hz : xs.length ≤ sizeLine := by rw [← Paired.length rel]; exact z
    have hl : (putK kvs k v).length ≤ sizeLine := by have := length_putK kvs k v; omega
    refine wpAny_setItem_heap (hsz := hz) (tupleKind_room_in1 hu) (key_of I.hok eb) dd fun h' dd' hs => h _ ?_
    obtain ⟨q, es, ep, hq, h2, h3, h4, _, h5⟩ := dd'
    refine d_write I (by rw [e]; exact True.intro) hs ⟨q, hq⟩ ⟨hl, hd, _, (rel.put k eb rv).keeps fun c ys ec => ?_, q, es, ep, hq, h2, h3, h4, h5⟩
    rw [upd_ne (ne_of ec e (fun z => nomatch z))]
    exact ec
end
section
variable {X : Cx} {pins : List (Addr × Obj)} {σ : St} {H : Hp} {s : Shared} {a : Addr} {kvs : List (Key × V)} {k : Key} {u : Value} {A : Around} {E : Value → Shared → Prop}
theorem d_delItem {Q : Unit → Shared → Prop} (I : Inv X pins σ H s) (e : H a = some (.dK kvs)) (ry : RelV (kV k) u) (l : (valV kvs k).isSome = true) (h : ∀ s', Inv X pins σ (upd H a (.dK (dropK kvs k))) s' → Q () s') :
    wpAny (model X.prog X.w) A (delItem (.ref a) u) Q E s := by
  obtain ⟨z, hd, vs, rel, dd⟩ := dk_of I.hok e
  refine wpAny_delItem_slot dd.typeIs (by decide) PySem.F.slot_dict_delitem
    (call_meetsIn PySem.F.slot_dict_delitem dd.typeIs PySem.F.entry_dict_delitem (PySem.F.args_dict_delitem_2 _ _) (meets_dict_delitem_pairs (mixKind X.prog X.w) a (kV_is ry)) ⟨vs, dd, by rw [← rel.length]; exact z, by rw [← (rel.val k).isSome_eq]; exact l, fun h' dd' hs => h _ ?_⟩)
  have he : ∃ q, h'.get? a = some q := let ⟨q, _, _, hq, _⟩ := dd'; ⟨q, hq⟩
  exact d_write I (by rw [e]; exact True.intro) hs he (dk_new (Nat.le_trans (dropK_le kvs k) z) hd (rel.drop k) dd')
theorem d_pop {v : V} {more : List Value} {Q : Value → Shared → Prop} (I : Inv X pins σ H s) (e : H a = some (.dK kvs)) (ry : RelV (kV k) u) (l : valV kvs k = some v) (hm : more = [] ∨ ∃ x, more = [x])
    (h : ∀ w' s', Inv X pins σ (upd H a (.dK (dropK kvs k))) s' → RelV v w' → Q w' s') : wpAny (model X.prog X.w) A (call (.builtin "dict.pop") (.ref a :: u :: more)) Q E s := by
  obtain ⟨z, hd, vs, rel, dd⟩ := dk_of I.hok e
  obtain ⟨w', hw, rw'⟩ := RelO.some_of (v := v) (o := valueAt vs k) (by rw [← l]; exact rel.val k)
  have hp : (keyPart u).isSome = true := by
    cases k with
    | inl i => obtain ⟨t, q⟩ := (show ∃ t, u = Value.int i t from ry); subst q; rfl
    | inr x => obtain ⟨t, q⟩ := (show ∃ t, u = Value.str x t from ry); subst q; rfl
  have ha : argsOk "dict.pop" ⟨.ref a :: u :: more, []⟩ := by
    rcases hm with q | ⟨x, q⟩
    · subst q; exact PySem.F.args_dict_pop_2 _ _
    · subst q; exact PySem.F.args_dict_pop_3 _ _ _
  refine call_meetsIn PySem.F.slot_dict_pop dd.typeIs PySem.F.entry_dict_pop ha (meets_dict_pop_there (mixKind X.prog X.w) a (kV_is ry) more hm hp)
    ⟨vs, w', dd, by rw [← rel.length]; exact z, hw, fun h' dd' hs => h w' _ ?_ rw'⟩
  have he : ∃ q, h'.get? a = some q := let ⟨q, _, _, hq, _⟩ := dd'; ⟨q, hq⟩
  exact d_write I (by rw [e]; exact True.intro) hs he (dk_new (Nat.le_trans (dropK_le kvs k) z) hd (rel.drop k) dd')
theorem d_len {Q : Value → Shared → Prop} (I : Inv X pins σ H s) (e : Rd H a (.dK kvs)) (h : ∀ t s', Inv X pins σ H s' → Q (.int kvs.length t) s') : wpAny (model X.prog X.w) A (call (.builtin "len") [.ref a]) Q E s := by
  obtain ⟨z, hd, vs, rel, dd⟩ := dk_rd I.hok e
  refine call_len_dict hd dd (by rw [← rel.length]; rw [sizeLine_eq] at z; omega) ?_
  rw [← rel.length]
  exact h _ _ (I.tok _)
end
def NoSl (i : Expr) : Prop := ∀ ov iv, subscripted i false ov iv = operate [ov, iv] (getItem ov iv)
theorem subD_of {prog : Program} {w : World} {A : Around} {E : Value → Shared → Prop} {s : Shared} {env : Env} {value slice : Expr} {pos : Pos} {T id : String} {Q : Value → Shared → Prop}
    (hl : typeLookup (.type T) "__getitem__" = pure (some (.builtin id))) (hs : NoSl slice)
    (h : wpAny (model prog w) A (eval value env) (fun o s₁ => wpAny (model prog w) A (eval slice env) (fun i s₂ => s₂.TypeIs o T ∧ wpAny (model prog w) A (getItem o i) Q E s₂) E s₁) E s) :
    wpAny (model prog w) A (eval (.Subscript value slice pos) env) Q E s := by
  refine Subscript_ (wpAny_mono h (fun o s₁ h₁ => wpAny_mono h₁ (fun i s₂ h₂ => ?_) fun _ _ x => x) fun _ _ x => x)
  obtain ⟨hT, h₂⟩ := h₂
  unfold subscriptTail
  refine wpAny_bind ?_
  rw [getitemInPython_of_ne hT.not_modules]
  refine wpAny_bind (wpAny_specialOf hT hl ?_)
  have fin : wpAny (model prog w) A (subscripted slice false o i) (fun r s₃ => wpAny (model prog w) A (letTemporaryGo value o r >>= fun _ => pure r) Q E s₃) E s₂ := by
    rw [hs o i]
    exact wpAny_operating (wpAny_mono h₂ (fun r s₃ h₃ => wpAny_bind (wpAny_letTemporaryGo (wpAny_pure h₃))) fun _ _ x => x)
  first
    | exact wpAny_pure (wpAny_bind fin)
    | exact wpAny_bind (wpAny_pure (wpAny_bind fin))
    | exact wpAny_bind fin
theorem dict_typeIs {X : Cx} {pins : List (Addr × Obj)} {σ : St} {H : Hp} {s : Shared} {a : Addr} {y : V} {o : Option V} (I : Inv X pins σ H s) (g : DGet H a y o) : s.TypeIs (.ref a) "dict" := by
  rcases g with ⟨kvs, k, e, _, _⟩ | ⟨kvs, k, b, e, _, _, _⟩
  · obtain ⟨_, _, vs, _, dd⟩ := dk_rd I.hok e
    exact dd.typeIs
  · obtain ⟨_, _, xs, _, dd⟩ := dt_rd I.hok e
    exact dd.typeIs
def tDGet (td ty : TE) : TE := fun σ H Q => td σ H fun x H1 => ty σ H1 fun y H2 => ∃ a v, x = .ref a ∧ DGet H2 a y (some v) ∧ Q v H2
def tDIn (ty td : TE) : TE := fun σ H Q => ty σ H fun y H1 => td σ H1 fun x H2 => ∃ a o, x = .ref a ∧ DGet H2 a y o ∧ Q (.bl o.isSome) H2
def tDNotIn (ty td : TE) : TE := fun σ H Q => ty σ H fun y H1 => td σ H1 fun x H2 => ∃ a o, x = .ref a ∧ DGet H2 a y o ∧ Q (.bl (!o.isSome)) H2
def sDPut (td ty tv : TE) : TS := fun D σ H => tv σ H fun v H1 => td σ H1 fun x H2 => ty σ H2 fun y H3 => ∃ a H4, x = .ref a ∧ DPut H3 a y v H4 ∧ D.nx σ H4
def sDAug (td ty tv : TE) (rd : V → V → Hp → VK → Prop) : TS := fun D σ H => td σ H fun x H1 => ty σ H1 fun y H2 => ∃ a v, x = .ref a ∧ DGet H2 a y (some v) ∧
  tv σ H2 fun y2 H3 => rd v y2 H3 fun z H4 => ∃ H5, DPut H4 a y z H5 ∧ D.nx σ H5
section
variable {X : Cx} {o i e value : Expr} {pos pos' tpos : Pos} {td ty tv : TE}
theorem pe_dget (hu : X.A.units + 1 < cLine) (ho : PE X o td) (hi : PE X i ty) (hs : NoSl i) : PE X (.Subscript o i pos) (tDGet td ty) := by
  intro pins s σ H Q I h
  refine subD_of PySem.F.slot_dict_getitem.lookup hs (thn (ho pins s σ H _ I h) fun u s1 ⟨x, H1, I1, rx, q1⟩ => thn (hi pins s1 σ H1 _ I1 q1) fun iv s2 ⟨y, H2, I2, ry, a, v, ex, g, q2⟩ => ?_)
  subst ex
  obtain rfl : u = Value.ref a := rx
  exact ⟨dict_typeIs I2 g, d_getItem hu I2 g ry fun w' s3 I3 rw' => ⟨v, H2, I3, rw', q2⟩⟩
theorem pc_din (hu : X.A.units + 1 < cLine) (hi : PE X i ty) (ho : PE X o td) : PC X .In i o (tDIn ty td) := by
  intro pins s σ H Q I h
  refine thn (hi pins s σ H _ I h) fun iv s1 ⟨y, H1, I1, ry, q1⟩ => thn (ho pins s1 σ H1 _ I1 q1) fun u s2 ⟨x, H2, I2, rx, a, ov, ex, g, q2⟩ => ?_
  subst ex
  obtain rfl : u = Value.ref a := rx
  exact d_in hu I2 g ry fun s3 I3 => ⟨.bl ov.isSome, H2, I3, rfl, q2⟩
theorem pc_dnotin (hu : X.A.units + 1 < cLine) (hi : PE X i ty) (ho : PE X o td) : PC X .NotIn i o (tDNotIn ty td) := by
  intro pins s σ H Q I h
  refine thn (hi pins s σ H _ I h) fun iv s1 ⟨y, H1, I1, ry, q1⟩ => thn (ho pins s1 σ H1 _ I1 q1) fun u s2 ⟨x, H2, I2, rx, a, ov, ex, g, q2⟩ => ?_
  subst ex
  obtain rfl : u = Value.ref a := rx
  exact d_notIn hu I2 g ry fun s3 I3 => ⟨.bl (!ov.isSome), H2, I3, rfl, q2⟩
theorem ps_dput (hu : X.A.units + 1 < cLine) (ho : PE X o td) (hi : PE X i ty) (hv : PE X value tv) (hs : swapsWith value (some (.Subscript o i pos')) pos.line X.env = pure false) :
    PS X (.Assign [.Subscript o i pos'] value pos) (sDPut td ty tv) := by
  intro pins s σ H D I h
  refine wpAny_Assign_Subscript (thn (hv pins s σ H _ I h) fun r s1 ⟨v, H1, I1, rv, q1⟩ => thn (ho pins s1 σ H1 _ I1 q1) fun u s2 ⟨x, H2, I2, rx, q2⟩ => thn (hi pins s2 σ H2 _ I2 q2) fun iv s3 ⟨y, H3, I3, ry, a, H4, ex, g, q3⟩ => ?_) hs
  subst ex
  obtain rfl : u = Value.ref a := rx
  exact d_setItem hu I3 g ry rv fun s4 I4 => ⟨σ, H4, I4, q3⟩
theorem ps_daug {op : Operator} {rd : V → V → Hp → VK → Prop} (hu : X.A.units + 1 < cLine) (ho : PE X o td) (hi : PE X i ty) (hv : PE X value tv) (hop : InOp X op rd)
    (ha : ∀ ov iv new, augStore i ov iv new = (do holding [new, ov, iv] (setItem ov iv new); release [new, ov, iv] []; pure .next)) : PS X (.AugAssign (.Subscript o i tpos) op value pos) (sDAug td ty tv rd) := by
  intro pins s σ H D I h
  refine wpAny_AugAssign_SubscriptAny (thn (ho pins s σ H _ I h) fun u s1 ⟨x, H1, I1, rx, q1⟩ => thn (hi pins s1 σ H1 _ I1 q1) fun iv s2 ⟨y, H2, I2, ry, a, v, ex, g, q2⟩ => ?_) ha
  subst ex
  obtain rfl : u = Value.ref a := rx
  refine d_getItem hu I2 g ry fun w' s3 I3 rw' => thn (hv pins s3 σ H2 _ I3 q2) fun w2 s4 ⟨y2, H3, I4, ry2, q3⟩ => thn (hop pins s4 σ H3 v y2 w' w2 _ I4 rw' ry2 q3) fun w3 s5 ⟨z, H4, I5, rz, H5, g5, q4⟩ => ?_
  exact d_setItem hu I5 g5 ry rz fun s6 I6 => ⟨σ, H5, I6, q4⟩
end
theorem dk_empty {P : Program} {w : World} {H : Hp} (h : Heap) (hb : sysModules < h.objs.size) : ObjOk P w H (h.push { cls := .type "dict", data := .dict #[] }) h.objs.size (.dK []) :=
  ⟨Nat.zero_le _, beq_eq_false_iff_ne.mpr (Ne.symm (Nat.ne_of_lt hb)), [], .nil, Heap.DictOf.new h⟩
def tDNewK : TE := fun _ H Q => ∀ p, H p = none → Q (.ref p) (upd H p (.dK []))
section
variable {X : Cx} {pos : Pos}
theorem pe_dnewK : PE X (.Dict [] [] pos) tDNewK := fun pins s σ H Q I h =>
  wpAny_Dict_empty ⟨.ref s.heap.objs.size, _, I.laid (a := s.heap.objs.size) (o := .dK []) (t' := s.toks) (fun _ _ q => Heap.get?_push_of_some _ q) (Nat.le_refl _) (dk_empty s.heap I.big), rfl, h _ (I.hok.fresh (Nat.le_refl _))⟩
end
def mergeK (kvs more : List (Key × V)) : List (Key × V) := more.foldl (fun acc kv => putK acc kv.1 kv.2) kvs
theorem KV.merge : ∀ {more : List (Key × V)} {rs : List (Key × Value)} {kvs : List (Key × V)} {vs : List (Key × Value)}, KV more rs → KV kvs vs → KV (mergeK kvs more) (merged vs rs) := by
  intro more rs kvs vs r
  unfold KV at r
  induction r generalizing kvs vs with
  | nil => intro q; exact q
  | @cons p q ps qs h t ih =>
    intro r0
    have e : KV (putK kvs p.1 p.2) (stored vs q.1 q.2) := by
      have := r0.put p.1 h.2
      rw [← h.1]; exact this
    exact ih e
theorem length_mergeK : ∀ (more kvs : List (Key × V)), (mergeK kvs more).length ≤ kvs.length + more.length
  | [], kvs => by show kvs.length ≤ kvs.length + 0; omega
  | p :: r, kvs => by
    have h1 := length_mergeK r (putK kvs p.1 p.2)
    have h2 := length_putK kvs p.1 p.2
    show (mergeK (putK kvs p.1 p.2) r).length ≤ _
    rw [List.length_cons]; omega
structure M1 (X : Cx) (o : Expr) (m : Str) (apos : Pos) (e : Expr) (cpos : Pos) : Prop where
  base : attributeBase o m X.env (eval o X.env) = eval o X.env
  few : ((backTo cpos (starEach [e] X.env)).all (fun x => !x.1) && (backToKw cpos (keywordEach [] X.env)).all (fun x => x.1.isSome)
    && decide (([e] : List Expr).length + ([] : List Keyword).length + (if ([] : List Keyword).isEmpty then 0 else 1) < 30)) = true
  line : (apos.endLine == cpos.line) = true
  trees : backTo cpos (starEach [e] X.env) = [(false, eval e X.env)]
structure M2 (X : Cx) (o : Expr) (m : Str) (apos : Pos) (e f : Expr) (cpos : Pos) : Prop where
  base : attributeBase o m X.env (eval o X.env) = eval o X.env
  few : ((backTo cpos (starEach [e, f] X.env)).all (fun x => !x.1) && (backToKw cpos (keywordEach [] X.env)).all (fun x => x.1.isSome)
    && decide (([e, f] : List Expr).length + ([] : List Keyword).length + (if ([] : List Keyword).isEmpty then 0 else 1) < 30)) = true
  line : (apos.endLine == cpos.line) = true
  trees : backTo cpos (starEach [e, f] X.env) = [(false, eval e X.env), (false, eval f X.env)]
def IsD (H : Hp) (a : Addr) : Prop := (∃ kvs, Rd H a (.dK kvs)) ∨ ∃ kvs, Rd H a (.dT kvs)
theorem isD_at {X : Cx} {pins : List (Addr × Obj)} {σ : St} {H : Hp} {s : Shared} {a : Addr} (I : Inv X pins σ H s) (d : IsD H a) :
    s.TypeIs (.ref a) "dict" ∧ (∀ b, Value.ref a = .ref b → ∃ ob, s.heap.get? b = some ob ∧ ob.dict = none) ∧ (a == sysModules) = false := by
  rcases d with ⟨kvs, e⟩ | ⟨kvs, e⟩
  · obtain ⟨_, hd, vs, _, dd⟩ := dk_rd I.hok e
    refine ⟨dd.typeIs, fun b q => ?_, hd⟩
    cases q
    obtain ⟨ob, _, _, h1, h2, _⟩ := dd
    exact ⟨ob, h1, h2.2.1⟩
  · obtain ⟨_, hd, xs, _, dd⟩ := dt_rd I.hok e
    refine ⟨dd.typeIs, fun b q => ?_, hd⟩
    cases q
    obtain ⟨ob, _, _, h1, h2, _⟩ := dd
    exact ⟨ob, h1, h2.2.1⟩
section
variable {X : Cx} {pins : List (Addr × Obj)} {σ : St} {H : Hp} {s : Shared} {a : Addr} {y d : V} {u r : Value} {o : Option V} {A : Around} {E : Value → Shared → Prop}
theorem d_get2 {Q : Value → Shared → Prop} (hu : A.units + 1 < cLine) (I : Inv X pins σ H s) (g : DGet H a y o) (ry : RelV y u) (rd : RelV d r) (h : ∀ w' s', Inv X pins σ H s' → RelV (o.getD d) w' → Q w' s') :
    wpAny (model X.prog X.w) A (call (.builtin "dict.get") [.ref a, u, r]) Q E s := by
  rcases g with ⟨kvs, k, e, ey, l⟩ | ⟨kvs, k, b, e, ey, eb, l⟩
  · subst ey
    obtain ⟨z, hd, vs, rel, dd⟩ := dk_rd I.hok e
    refine call_meetsIn PySem.F.slot_dict_get dd.typeIs PySem.F.entry_dict_get (PySem.F.args_dict_get_3 _ _ _) (meets_dict_get_default (mixKind X.prog X.w) a (kV_is ry) hd r) ⟨_, dd.mapOf, h _ _ (I.tok _) ?_⟩
    rw [l]
    exact (rel.val k).getD rd
  · subst ey
    cases (show u = Value.ref b from ry)
    obtain ⟨z, hd, xs, rel, dd⟩ := dt_rd I.hok e
    refine call_meetsIn PySem.F.slot_dict_get dd.typeIs PySem.F.entry_dict_get (PySem.F.args_dict_get_3 _ _ _) (meetsH_dict_get_default (tupleKind (mixKind X.prog X.w)) a b hd r) ⟨tupleKind_room_in1 hu, k, xs, key_of I.hok eb, dd, h _ _ (I.tok _) ?_⟩
    rw [l]
    exact (rel.val k).getD rd
end
def tDGet2 (td ty tx : TE) : TE := fun σ H Q => td σ H fun x H1 => ∃ a, x = .ref a ∧ IsD H1 a ∧ ty σ H1 fun y H2 => tx σ H2 fun z H3 => ∃ o, DGet H3 a y o ∧ Q (o.getD z) H3
def tDPop1 (td ty : TE) : TE := fun σ H Q => td σ H fun x H1 => ∃ a, x = .ref a ∧ IsD H1 a ∧ ty σ H1 fun y H2 => ∃ kvs k v, H2 a = some (.dK kvs) ∧ y = kV k ∧ valV kvs k = some v ∧ Q v (upd H2 a (.dK (dropK kvs k)))
section
variable {X : Cx} {o e f : Expr} {apos cpos : Pos} {td ty tx : TE}
theorem pe_dget2 (hu : X.A.units + 1 < cLine) (ho : PE X o td) (he : PE X e ty) (hf : PE X f tx) (m : M2 X o "get" apos e f cpos) : PE X (.Call (.Attribute o "get" apos) [e, f] [] cpos) (tDGet2 td ty tx) := by
  intro pins s σ H Q I h
  refine wpAny_Call_method m.base m.few m.line PySem.F.plainAttrs_dict PySem.F.slot_dict_get PySem.F.type_dict_get (thn (ho pins s σ H _ I h) fun u s1 ⟨x, H1, I1, rx, a, ex, d, q1⟩ => ?_)
  subst ex
  obtain rfl : u = Value.ref a := rx
  obtain ⟨t1, t2, _⟩ := isD_at I1 d
  refine ⟨t1, t2, ?_⟩
  rw [m.trees]
  refine Calls.callWith_builtin rfl (Calls.evalArgs_plain (Calls.spliced_cons (thn (he pins s1 σ H1 _ I1 q1) fun iv s2 ⟨y, H2, I2, ry, q2⟩ =>
    Calls.spliced_cons (thn (hf pins s2 σ H2 _ I2 q2) fun fv s3 ⟨z, H3, I3, rz, ov, g, q3⟩ => Calls.spliced_nil ?_))))
  exact d_get2 hu I3 g ry rz fun w' s4 I4 rw' => ⟨_, H3, I4, rw', q3⟩
theorem pe_dpop1 (ho : PE X o td) (he : PE X e ty) (m : M1 X o "pop" apos e cpos) : PE X (.Call (.Attribute o "pop" apos) [e] [] cpos) (tDPop1 td ty) := by
  intro pins s σ H Q I h
  refine wpAny_Call_method m.base m.few m.line PySem.F.plainAttrs_dict PySem.F.slot_dict_pop PySem.F.type_dict_pop (thn (ho pins s σ H _ I h) fun u s1 ⟨x, H1, I1, rx, a, ex, d, q1⟩ => ?_)
  subst ex
  obtain rfl : u = Value.ref a := rx
  obtain ⟨t1, t2, _⟩ := isD_at I1 d
  refine ⟨t1, t2, ?_⟩
  rw [m.trees]
  refine Calls.callWith_builtin rfl (Calls.evalArgs_plain (Calls.spliced_cons (thn (he pins s1 σ H1 _ I1 q1) fun iv s2 ⟨y, H2, I2, ry, kvs, k, v, ea, ey, l, q2⟩ => Calls.spliced_nil ?_)))
  subst ey
  exact d_pop I2 ea ry l (.inl rfl) fun w' s3 I3 rw' => ⟨v, _, I3, rw', q2⟩
end
section
variable {X : Cx} {pins : List (Addr × Obj)} {σ : St} {H : Hp} {s : Shared} {a : Addr} {kvs : List (Key × V)} {A : Around} {E : Value → Shared → Prop}
end
section
variable {X : Cx} {pins : List (Addr × Obj)} {σ : St} {H : Hp} {s : Shared} {a : Addr} {y : V} {u : Value} {A : Around} {E : Value → Shared → Prop}
end
end L2
namespace L2
open PySem PySem.Spec PyProof.Rows
theorem list_keys_none : typeLookup (.type "list") "keys" = pure none := am_miss_of_fast (by first | decide +kernel | rfl)
theorem ud_entry : entryFor table "dict.update.loop" = some Builtin.«dict.update.loop» := entryFor_of_tree (by kernel_rfl)
theorem ud_plain : plainId "dict.update.loop" = true := by decide +kernel
section
variable {prog : Program} {w : World} {A : Around} {E : Value → Shared → Prop}
theorem miss_list {s : Shared} {a : Addr} {o : Obj} {xs : Array Value} {k : Nat} {Q : Option Value → Shared → Prop} (hx : s.heap.get? a = some o) (hc : o.cls = .type "list") (hdat : o.data = .seq xs k) (hd : o.dict = none) (hA : A.handled = none)
    (h : ∀ h' tk, (∀ b ob, s.heap.get? b = some ob → h'.get? b = some ob) → Q none { s with heap := h', toks := tk }) : wpAny (model prog w) A (getAttr? (.ref a) "keys") Q E s := by
  obtain ⟨c, dct, dat, sl⟩ := o
  simp only at hc hdat hd
  subst hc hdat hd
  obtain ⟨hp, g, d, tk, os⟩ := s
  have hT : ∀ tk', (⟨hp, g, d, tk', os⟩ : Shared).TypeIs (.ref a) "list" := fun _ => ⟨_, hx, rfl⟩
  have hmiss := list_keys_none
  have hname : (["__module__", "__name__", "__qualname__", "__doc__", "__annotations__"] : List Str).contains "keys" = false := by decide +kernel
  have hsz : ("keys" : Str).length + 100 ≤ sizeLine := by first | size_fits | decide +kernel
  have f1 := sub_AttributeError
  have f3 := PySem.F.slot_list_getattribute.lookup
  have f4 := PySem.F.slot_list_getattribute.bind (.ref a)
  have f5 := am_list_getattr_none
  unfold getAttr? getAttrBy? getAttrBy
  repeat (any_goals (first | assumption | exact hT _ | ((with_reducible show wpAny _ _ (call (Value.builtin "list.__getattribute__") _ _) _ _ _); refine call_meets PySem.F.slot_list_getattribute (hT _) am_entry_list_getattribute (PySem.F.args_list_getattribute_2 _ _) (meets_getattribute_miss_list a xs k sl "keys" _ hmiss hname hsz) ⟨hx, hA, fun h' tk' e hx' => ?_⟩) | wp_step))
  obtain ⟨t', u', he⟩ := hx'.there
  show wpAny _ _ (getattributeRaised _ _ _ _ _ _ _) _ _ _
  unfold getattributeRaised
  repeat (any_goals (first | assumption | wp_step))
  all_goals first | exact h _ _ hx'.keeps | (dsimp only; repeat (any_goals (first | assumption | exact h _ _ hx'.keeps | wp_step)))
theorem upd_loop {R : Result → Shared → Prop} {S I l : Addr} {items : Array Value} {res : Value} (hh : A.handled = none) (hlI : l ≠ I) (hSI : S ≠ I) (hSl : S ≠ l) :
    ∀ (rest : List (Key × Value)) (i : Nat) (acc : List (Key × Value)) (ix : Int) (t : Tok) (s : Shared), items.size = i + rest.length → acc.length + rest.length ≤ sizeLine →
      (∀ (j : Nat) (q : Key × Value), rest[j]? = some q → ∃ (b : Addr) (u : Value), items[i + j]? = some (.ref b) ∧ b ≠ S ∧ b ≠ I ∧ IsTup s.heap b #[u, q.2] ∧ keyIs q.1 u = true) →
      s.heap.IsListIter I l i → s.heap.IsList l items → s.heap.DictOf (mixKind prog w) S acc →
      (∀ h' tk, h'.DictOf (mixKind prog w) S (merged acc rest) → (∀ b o, b ≠ S → b ≠ I → s.heap.get? b = some o → h'.get? b = some o) → R (.ok (.ret res)) { s with heap := h', toks := tk }) →
      codeAny (model prog w) A (.builtin "dict.update.loop" ⟨[.ref S, .ref I, .int ix t, res], []⟩) R s
  | [], i, acc, ix, t, s, hsz, hln, ht, hit, hl, hm, hR => by
    refine codeAny_builtin ud_entry ?_
    rw [Around.under_plainId ud_plain _]
    show wpAny _ A.in1 (pyNext (.ref I) >>= _) _ _ s
    refine wpAny_bind (wpAny_pyNext_list_end (A := A.in1) hh hit hl (by first | exact Array.getElem?_eq_none (Nat.le_of_eq hsz) | (simp at hsz; simp; omega)) fun h' he => ?_)
    show wpAny _ A.in1 (Builtin.Dict.addKeywords S [] >>= _) _ _ _
    refine wpAny_bind (wpAny_pure (wpAny_pure ?_))
    exact hR h' s.toks (hm.extBut he hSI) fun b o _ hb e => he b o hb e
  | q :: rest, i, acc, ix, t, s, hsz, hln, ht, hit, hl, hm, hR => by
    obtain ⟨b, u, hb, hbS, hbI, htup, hk⟩ := ht 0 q rfl
    rw [List.length_cons] at hsz hln
    refine codeAny_builtin ud_entry ?_
    rw [Around.under_plainId ud_plain _]
    show wpAny _ A.in1 (pyNext (.ref I) >>= _) _ _ s
    refine wpAny_bind (wpAny_pyNext_list_item (x := .ref b) hit hl (by simpa using hb) fun h1 hit1 hs1 => ?_)
    have ht1 : IsTup h1 b #[u, q.2] := htup.extBut hs1.extBut hbI
    have hl1 : h1.IsList l items := hl.extBut hs1.extBut hlI
    have hm1 : h1.DictOf (mixKind prog w) S acc := hm.extBut hs1.extBut hSI
    obtain ⟨o, ho, hc, n, hd⟩ := id ht1
    show wpAny _ A.in1 (holding [Value.ref b] _ >>= _) _ _ _
    refine wpAny_bind (wpAny_holding ?_)
    refine wpAny_bind (wpAny_tryCatch ?_)
    unfold Builtin.Dict.pairItems
    refine wpAny_bind (wpAny_typeOf (T := "tuple") ⟨o, ho, hc⟩ ?_)
    rw [if_pos (by first | decide | rfl | simp)]
    refine wpAny_bind (wpAny_seqItems ho hd (wpAny_pure ?_))
    show wpAny _ A.in1 (holding [u, q.2] (dictSet S u q.2)) _ _ _
    refine wpAny_holding (wpAny_dictSet_pairs (knd := mixKind prog w) (k := q.1) hk hm1 (fun h2 hm2 hs2 => ?_) (by omega))
    refine wpAny_pure ⟨plainId_quiet ud_plain _, upd_loop (items := items) hh hlI hSI hSl rest (i + 1) (stored acc q.1 q.2) (ix + 1) 0 _ (show items.size = i + 1 + rest.length by omega) ?_ (fun j q' e => ?_) ?_ ?_ hm2 fun h' tk hd' k => ?_⟩
    · have z := stored_length_le acc q.1 q.2
      omega
    · obtain ⟨b', u', hb', hbS', hbI', htup', hk'⟩ := ht (j + 1) q' (by simpa using e)
      refine ⟨b', u', ?_, hbS', hbI', (htup'.extBut hs1.extBut hbI').extBut hs2.extBut hbS', hk'⟩
      rw [show i + 1 + j = i + (j + 1) by omega]
      exact hb'
    · exact hit1.at fun o' e => hs2.extBut I o' (Ne.symm hSI) e
    · exact hl1.extBut hs2.extBut (Ne.symm hSl)
    · exact hR h' tk hd' fun c oc h3 h4 e => k c oc h3 h4 (hs2.extBut c oc h3 (hs1.extBut c oc h4 e))
theorem call_dict_pairs {s : Shared} {l : Addr} {ol : Obj} {items : Array Value} {n : Nat} {prs : List (Key × Value)} {Q : Value → Shared → Prop} (hh : A.handled = none) (hl : s.heap.get? l = some ol) (hc : ol.cls = .type "list") (hd : ol.dict = none)
    (hdat : ol.data = .seq items n) (hsz : items.size = prs.length) (hln : prs.length ≤ sizeLine)
    (ht : ∀ (j : Nat) (q : Key × Value), prs[j]? = some q → ∃ (b : Addr) (u : Value), items[j]? = some (.ref b) ∧ IsTup s.heap b #[u, q.2] ∧ keyIs q.1 u = true)
    (h : ∀ h' tk, h'.DictOf (mixKind prog w) s.heap.objs.size (merged [] prs) → (∀ b o, s.heap.get? b = some o → h'.get? b = some o) → Q (.ref s.heap.objs.size) { s with heap := h', toks := tk }) :
    wpAny (model prog w) A (call (.type "dict") [.ref l]) Q E s := by
  refine callType_codes (Q₁ := fun obj s₁ => obj = .ref s.heap.objs.size ∧ s₁ = { s with heap := s.heap.push { cls := .type "dict", data := .dict #[] } }) PySem.F.kt_called_dict (PySem.F.kt_typeCall_dict_1 _) PySem.F.entry_dict_init (kt_code_dict_new _ ⟨rfl, rfl⟩) ?_
  rintro obj s₁ ⟨rfl, rfl⟩
  have hnew : (s.heap.push { cls := .type "dict", data := .dict #[] }).DictOf (mixKind prog w) s.heap.objs.size [] := Heap.DictOf.new s.heap
  have k0 : ∀ b o, s.heap.get? b = some o → (s.heap.push { cls := .type "dict", data := .dict #[] }).get? b = some o := fun b o e => Heap.get?_push_of_some _ e
  refine ⟨hnew.typeIs, PySem.F.args_dict_init_2 _ _, ?_⟩
  unfold Builtin.«dict.__init__»
  refine wpAny_bind ?_
  unfold Builtin.Dict.selfAndRest
  refine wpAny_bind (wpAny_notOrdered_dict hnew.typeIs ?_)
  show wpAny _ _ (pure (s.heap.objs.size, [Value.ref l])) _ _ _
  refine wpAny_pure ?_
  show wpAny _ _ (Builtin.Dict.updateFrom "dict.__init__" s.heap.objs.size (.ref l) [] .none) _ _ _
  unfold Builtin.Dict.updateFrom
  refine wpAny_bind (wpAny_typeOf (T := "list") ⟨ol, k0 _ _ hl, hc⟩ ?_)
  rw [if_pos (by first | decide | rfl | simp)]
  refine wpAny_bind (miss_list (k0 _ _ hl) hc hdat hd hh fun h1 tk1 hk1 => ?_)
  rw [if_pos (show (none : Option Value).isNone = true from rfl)]
  refine wpAny_bind (wpAny_rule ?_)
  have hl1 : h1.IsList l items := ⟨ol, hk1 _ _ (k0 _ _ hl), hc, n, hdat⟩
  have hS1 : s.heap.objs.size < h1.objs.size := by
    have e : (s.heap.push { cls := .type "dict", data := .dict #[] }).get? s.heap.objs.size = some { cls := .type "dict", data := .dict #[] } := Heap.get?_push_size _ rfl
    exact Heap.lt_size (hk1 _ _ e)
  refine wpAny_bind (wpAny_pyIter_list hl1 ?_)
  have k2 : ∀ b o, h1.get? b = some o → (h1.push { cls := .type "list_iterator", data := .fields #[.ref l, .int 0 0] }).get? b = some o := fun b o e => Heap.get?_push_of_some _ e
  have hlt : l < s.heap.objs.size := Heap.lt_size hl
  have key := upd_loop (prog := prog) (w := w) (A := A.in1) (R := wants (fun r s₂ => r = .none ∧ Q (.ref s.heap.objs.size) s₂) E) (S := s.heap.objs.size) (I := h1.objs.size) (l := l) (items := items) (res := Value.none) hh
    (Nat.ne_of_lt (Nat.lt_trans hlt hS1)) (Nat.ne_of_lt hS1) (Nat.ne_of_gt hlt) prs 0 [] 0 0
    { s with heap := h1.push { cls := .type "list_iterator", data := .fields #[.ref l, .int 0 0] }, toks := tk1 } (by rw [hsz, Nat.zero_add]) (by rw [List.length_nil, Nat.zero_add]; exact hln)
    (fun j q e => by
      obtain ⟨b, u, e1, e2, e3⟩ := ht j q e
      have hb : b < s.heap.objs.size := e2.lt
      exact ⟨b, u, by rw [Nat.zero_add]; exact e1, Nat.ne_of_lt hb, Nat.ne_of_lt (Nat.lt_trans hb hS1), e2.keeps fun c o z => k2 _ _ (hk1 _ _ (k0 _ _ z)), e3⟩)
    ⟨_, Heap.get?_push_size _ rfl, rfl, rfl⟩ (hl1.at fun o e => k2 _ _ e) ((hnew.at fun o e => hk1 _ _ e).at fun o e => k2 _ _ e)
    (fun h' tk hd' k => ⟨rfl, h h' tk hd' fun b o e => k b o (Nat.ne_of_lt (Heap.lt_size e)) (Nat.ne_of_lt (Nat.lt_trans (Heap.lt_size e) hS1)) (k2 _ _ (hk1 _ _ (k0 _ _ e)))⟩)
  first
    | exact wpAny_pure ⟨plainId_quiet ud_plain _, key⟩
    | exact wpAny_bind (wpAny_pure (wpAny_pure ⟨plainId_quiet ud_plain _, key⟩))
end
section
variable {X : Cx}
theorem pairs_of {pins : List (Addr × Obj)} {σ : St} {H : Hp} {s : Shared} (I : Inv X pins σ H s) : ∀ {ps : List Addr} {kvs : List (Key × V)}, Paired (fun p kv => SqT X.K H p [kV kv.1, kv.2]) ps kvs →
    ∃ prs : List (Key × Value), KV kvs prs ∧ prs.length = ps.length ∧ ∀ (j : Nat) (q : Key × Value), prs[j]? = some q → ∃ (b : Addr) (u : Value), ps[j]? = some b ∧ IsTup s.heap b #[u, q.2] ∧ keyIs q.1 u = true
  | _, _, .nil => ⟨[], .nil, rfl, fun j q e => by simp at e⟩
  | _, _, .cons (a := p) (b := kv) h t => by
    obtain ⟨prs, r, hl, hp⟩ := pairs_of I t
    obtain ⟨its, rv, ht, _⟩ := I.tuple h
    obtain ⟨u, y, ei, ru, ry⟩ := vals2 rv
    subst ei
    refine ⟨(kv.1, y) :: prs, .cons ⟨rfl, ry⟩ r, by rw [List.length_cons, List.length_cons, hl], fun j q e => ?_⟩
    cases j with
    | zero =>
      have e' : (kv.1, y) = q := Option.some.inj e
      subst e'
      exact ⟨p, u, rfl, ht, kV_is (P := X.prog) (w := X.w) ru⟩
    | succ j =>
      obtain ⟨b, u', e1, e2, e3⟩ := hp j q (by simpa using e)
      exact ⟨b, u', by simpa using e1, e2, e3⟩
theorem refs_at : ∀ {ps : List Addr} {us : List Value}, Vals (ps.map V.ref) us → us = ps.map Value.ref
  | [], us, r => by
    rw [List.map_nil] at r
    cases r
    rfl
  | p :: ps, us, r => by
    rw [List.map_cons] at r
    cases r with
    | cons h t =>
      cases h
      rw [List.map_cons, ← refs_at t]
theorem call_dictP (hcalm : X.calm = true) : CallR X (.type "dict") (fun xs H Q => ∃ (a : Addr) (ps : List Addr) (kvs : List (Key × V)), xs = [.ref a] ∧ SqL X.K H a (ps.map V.ref) ∧ Paired (fun p kv => SqT X.K H p [kV kv.1, kv.2]) ps kvs ∧
    ∀ p, H p = none → Q (.ref p) (upd H p (.dK (mergeK [] kvs)))) := by
  intro pins s σ H xs us Q I r q
  obtain ⟨a, ps, kvs, ex, hq, hp, q⟩ := q
  subst ex
  obtain ⟨u, eu, rx⟩ := vals1 r
  subst eu
  cases rx
  obtain ⟨its, rv, pl, hz⟩ := I.list hq
  have ei := refs_at rv
  subst ei
  rw [List.length_map] at hz
  obtain ⟨prs, rel, hl, hpr⟩ := pairs_of I hp
  obtain ⟨o, n, ho, hc, hd, hdat⟩ := pl
  refine call_dict_pairs (prs := prs) (I.ok.hd hcalm) ho hc hd hdat (by simp [hl]) (by rw [hl]; exact hz) (fun j q' e => ?_) fun h' tk hd' k => ?_
  · obtain ⟨b, u, e1, e2, e3⟩ := hpr j q' e
    exact ⟨b, u, by simp [e1], e2, e3⟩
  · have hm : (s.heap.objs.size == sysModules) = false := beq_eq_false_iff_ne.mpr (Nat.ne_of_gt I.big)
    have hlen : (mergeK [] kvs).length ≤ sizeLine := by
      refine Nat.le_trans (length_mergeK kvs []) ?_
      rw [List.length_nil, Nat.zero_add, rel.length, hl]
      exact hz
    exact ⟨.ref s.heap.objs.size, upd H s.heap.objs.size (.dK (mergeK [] kvs)), I.laid (t' := tk) k (Nat.le_refl _) (show ObjOk X.prog X.w _ _ _ (.dK (mergeK [] kvs)) from ⟨hlen, hm, merged [] prs, KV.merge rel .nil, hd'⟩), rfl, q _ (I.hok.fresh (Nat.le_refl _))⟩
end
end L2
namespace L2
open PySem PySem.Spec PyProof.Rows
section
variable {X : Cx} {pins : List (Addr × Obj)} {σ : St} {H : Hp} {s : Shared} {h' : Heap}
theorem Inv.turnedNew {t' : Nat} {ch : List Addr} {T : Addr} {ob : HO} (I : Inv X pins σ H s) (k : ∀ b o, b ∉ ch → s.heap.get? b = some o → h'.get? b = some o) (hf : ∀ b ∈ ch, FpOk X pins H b) (hT : s.heap.objs.size ≤ T)
    (new : ObjOk X.prog X.w (upd H T ob) h' T ob) : Inv X pins σ (upd H T ob) { s with heap := h', toks := t' } := by
  have hn : H T = none := I.hok.fresh hT
  have nit : ∀ b u, H b = some u → b ∉ ch := fun b u e z => by
    have q := (hf b z).1
    rw [q] at e; cases e
  refine I.step (g' := s.gens) (d' := s.drawn) (ch := ch) (fun b hb => ⟨(hf b hb).2.2.2.1, (hf b hb).2.1, (hf b hb).2.2.2.2.1, (hf b hb).2.2.2.2.2⟩) (fun b o _ _ hc e _ => k b o hc e) (fun b o _ _ hc e _ => ⟨o.slots, k b o hc e⟩)
    (fun b o _ e n => ?_) (fun b o hc e => ⟨o, k b o hc e⟩) (fun b xs e => ?_) (fun b o u e => ?_) (fun b ps e => ⟨#[], ?_⟩) (fun m hm => ?_) (fun b u e => ?_) I.bare
  · rw [upd_ne (Nat.ne_of_lt (Nat.lt_of_lt_of_le (Heap.lt_size e) hT))]; exact n
  · rw [upd_ne (ne_of_none e hn)]; exact e
  · rw [upd_ne (ne_of_none e hn)]; exact e
  · rw [upd_ne (ne_of_none e hn), e]; simp
  · obtain ⟨o, es, ep, ho, r⟩ := hm
    exact ⟨o, es, ep, k _ o (fun z => (hf _ z).2.1 rfl) ho, r⟩
  · by_cases hb : b = T
    · subst hb
      rw [upd_same] at e
      cases e
      exact new
    · rw [upd_ne hb] at e
      refine (I.hok b u e).stay (fun c v hc q => k c v ?_ q) (fun c q => by rw [upd_ne (ne_of_none q hn)]; exact q) fun c xs q => by rw [upd_ne (ne_of_none q hn)]; exact q
      rcases hc with z | z
      · rw [z]; exact nit b u e
      · exact nit c _ z
theorem Inv.lock {d : Addr} {u : HO} (I : Inv X pins σ H s) (h : H d = some u) (mu : Mut (some u)) : ∃ od, Inv X pins σ (upd H d (.frz od u)) s := by
  have x := I.hok d u h
  have ex : ∃ od, s.heap.get? d = some od := by
    cases u with
    | lst xs => obtain ⟨_, _, _, _, e⟩ := x; exact ⟨_, e⟩
    | dK kvs => obtain ⟨_, _, _, _, o, _, _, e, _⟩ := x; exact ⟨o, e⟩
    | dT kvs => obtain ⟨_, _, _, _, o, _, _, e, _⟩ := x; exact ⟨o, e⟩
    | set S n => obtain ⟨o, _, _, _, e, _⟩ := x; exact ⟨o, e⟩
    | ins C dx fs => obtain ⟨_, _, _, e, _⟩ := x; exact ⟨_, e⟩
    | ext φ => obtain ⟨_, ⟨_, e⟩, _⟩ := x; exact ⟨_, e⟩
    | _ => exact False.elim mu
  obtain ⟨od, e⟩ := ex
  have new : ObjOk X.prog X.w (upd H d (.frz od u)) s.heap d (.frz od u) := by
    refine ⟨e, x.stay (fun b v _ q => q) (fun b q => ?_) fun b xs q => ?_⟩
    · rw [upd_ne (fun z => by rw [z, h] at q; cases q; exact mu)]; exact q
    · rw [upd_ne (fun z => by rw [z, h] at q; cases q; exact mu)]; exact q
  exact ⟨od, I.write (x := d) (e := d) (t' := s.toks) (h' := s.heap) (by rw [h]; exact mu) (.inl rfl) (fun b v _ q => q) ⟨od, e⟩ new⟩
theorem Inv.nofrz {d : Addr} {u : HO} (I : Inv X pins σ H s) (h : H d = some u) (mu : Mut (some u)) : ∀ o' u', X.H_0 d ≠ some (.frz o' u') := fun o' u' e => by
  have q := I.base.frzs d o' u' e
  rw [h] at q
  cases q
  exact mu
theorem Inv.unlock {d : Addr} {od : Obj} {u : HO} (I : Inv X pins σ H s) (h : H d = some (.frz od u)) (hn : ∀ o' u', X.H_0 d ≠ some (.frz o' u')) : Inv X pins σ (upd H d u) s := by
  have neH : ∀ b o, H b = some o → (∀ o' u', o ≠ .frz o' u') → b ≠ d := fun b o e hne z => by
    rw [z, h] at e
    cases e
    exact hne _ _ rfl
  have neN : ∀ b, H b = none → b ≠ d := fun b e z => by rw [z, h] at e; cases e
  refine ⟨I.ok, I.os, I.bare, ⟨I.base.keep, I.base.slot, fun b o e n hx => ?_, I.base.there, fun b xs e => ?_, fun b o x e => ?_, fun b ps e => ?_⟩, I.loc, I.cell, ?_, fun x c e => ?_, fun p hp => ?_, fun b o e => ?_, I.len⟩
  · rw [upd_ne (neN b (I.base.free b o e n hx))]; exact I.base.free b o e n hx
  · have q := I.base.tups b xs e
    rw [upd_ne (neH b _ q (fun _ _ z => nomatch z))]; exact q
  · have q := I.base.frzs b o x e
    rw [upd_ne (fun z => by rw [z] at e; exact hn _ _ e)]; exact q
  · obtain ⟨m, q⟩ := I.base.tbls b ps e
    exact ⟨m, by rw [upd_ne (neH b _ q (fun _ _ z => nomatch z))]; exact q⟩
  · rw [upd_ne (neN _ I.free)]; exact I.free
  · rw [upd_ne (neN c (I.freeC x c e))]; exact I.freeC x c e
  · obtain ⟨e, n, r⟩ := I.pin p hp
    exact ⟨e, by rw [upd_ne (neN _ n)]; exact n, r⟩
  · by_cases hb : b = d
    · rw [hb, upd_same] at e
      cases e
      rw [hb]
      obtain ⟨_, x⟩ := I.hok d _ h
      exact x.stay (fun c v _ q => q) (fun c q => by rw [upd_ne (neH c _ q (fun _ _ z => nomatch z))]; exact q) fun c xs q => by rw [upd_ne (neH c _ q (fun _ _ z => nomatch z))]; exact q
    · rw [upd_ne hb] at e
      exact (I.hok b o e).stay (fun c v _ q => q) (fun c q => by rw [upd_ne (neH c _ q (fun _ _ z => nomatch z))]; exact q) fun c xs q => by rw [upd_ne (neH c _ q (fun _ _ z => nomatch z))]; exact q
end
def tLock (t : TS) : TS := fun D σ H => ∃ d u, H d = some u ∧ Mut (some u) ∧ ∀ od, t ⟨fun σ' H' => H' d = some (.frz od u) ∧ D.nx σ' (upd H' d u), fun v H' => H' d = some (.frz od u) ∧ D.rt v (upd H' d u), fun σ' H' => H' d = some (.frz od u) ∧ D.bk σ' (upd H' d u), fun σ' H' => H' d = some (.frz od u) ∧ D.ct σ' (upd H' d u)⟩ σ (upd H d (.frz od u))
def tLockE (t : TE) : TE := fun σ H Q => ∃ d u, H d = some u ∧ Mut (some u) ∧ ∀ od, t σ (upd H d (.frz od u)) fun v H' => H' d = some (.frz od u) ∧ Q v (upd H' d u)
section
variable {X : Cx}
theorem ps_lock {st : Stmt} {t : TS} (h : PS X st t) : PS X st (tLock t) := by
  intro pins s σ H D I hw
  obtain ⟨d, u, hd, mu, hw⟩ := hw
  obtain ⟨od, I1⟩ := I.lock hd mu
  refine thn (h pins s σ _ _ I1 (hw od)) fun f s1 q => ?_
  cases f with
  | next => obtain ⟨σ', H', I2, e, q⟩ := q; exact ⟨σ', _, I2.unlock e (I.nofrz hd mu), q⟩
  | brk => obtain ⟨σ', H', I2, e, q⟩ := q; exact ⟨σ', _, I2.unlock e (I.nofrz hd mu), q⟩
  | cont => obtain ⟨σ', H', I2, e, q⟩ := q; exact ⟨σ', _, I2.unlock e (I.nofrz hd mu), q⟩
  | ret v => obtain ⟨x, σ', H', I2, r, e, q⟩ := q; exact ⟨x, σ', _, I2.unlock e (I.nofrz hd mu), r, q⟩
theorem pe_lock {e : Expr} {t : TE} (h : PE X e t) : PE X e (tLockE t) := by
  intro pins s σ H Q I hw
  obtain ⟨d, u, hd, mu, hw⟩ := hw
  obtain ⟨od, I1⟩ := I.lock hd mu
  refine thn (h pins s σ _ _ I1 (hw od)) fun v s1 ⟨x, H1, I2, r, e2, q⟩ => ?_
  exact ⟨x, _, I2.unlock e2 (I.nofrz hd mu), r, q⟩
theorem pi_one {tg : Expr} {pins : List (Addr × Obj)} {σ : St} {H : Hp} {s : Shared} {R : It → Hp → Prop} {J : It} {tn : Nat → Heap → Prop} {tk : Nat} (I : Inv X pins σ H s) (o : Obj)
    (T : Turn X.prog X.w X.K tg J [s.heap.objs.size] s.heap.objs.size tn) (st : tn 0 (s.heap.push o)) (q : R J H) : PIE X pins σ tg R (.ref s.heap.objs.size) { s with heap := s.heap.push o, toks := tk } := by
  refine ⟨s.heap.objs.size, [s.heap.objs.size], tn, J, H, rfl, I.kept fun b ob e => Heap.get?_push_of_some _ e, T, st, fun b hb => ?_, q⟩
  have e : b = s.heap.objs.size := by simpa using hb
  subst e
  exact I.fpOk (Nat.le_refl _) (I.hok.fresh (Nat.le_refl _))
end
section
variable {X : Cx} {tg : Expr}
end
section
variable {X : Cx} {tg : Expr}
end
section
variable {prog : Program} {w : World} {A : Around} {E : Value → Shared → Prop} {s : Shared}
theorem iter_keys {d : Addr} {o : Obj} {es : Array DictEntry} {ep : Nat} {Q : Value → Shared → Prop} (hd : (d == sysModules) = false) (ho : s.heap.get? d = some o) (hc : o.ExactDict) (hdat : o.data = .dict es ep)
    (hQ : Q (.ref s.heap.objs.size) { s with heap := s.heap.push { cls := .type "dict_keyiterator", data := .fields #[.ref d, .int 0 0, .int es.size 0, .int ep 0] } }) :
    wpAny (model prog w) A (pyIter (.ref d)) Q E s := by
  have hT : s.TypeIs (.ref d) "dict" := ⟨o, ho, hc.1⟩
  refine wpAny_pyIter_slot hT F.slot_dict_iter (wpAny_call_entry F.slot_dict_iter hT F.entry_dict_iter ?_ (F.args_dict_iter_1 _))
  unfold Builtin.«dict.__iter__»
  refine wpAny_bind ?_
  unfold Builtin.Dict.dictSlotNone
  refine wpAny_bind (wpAny_notOrdered_dict hT ?_)
  show wpAny _ _ (pure (Value.ref d)) _ _ s
  refine wpAny_pure ?_
  show wpAny _ _ (Builtin.Dict.showsAll d >>= _) _ _ s
  unfold Builtin.Dict.showsAll
  rw [if_neg (by rw [hd]; exact Bool.false_ne_true)]
  refine wpAny_bind (wpAny_pure ?_)
  refine wpAny_bind (wpAny_dictEntries ho hdat ?_)
  refine wpAny_bind (wpAny_dictEpoch ho hdat ?_)
  refine wpAny_bind (wpAny_newObj_type (wpAny_pure ⟨_, rfl, "dict_keyiterator", _, ⟨_, Heap.get?_push_size _ rfl, rfl⟩, F.slot_dict_keyiterator_next.lookup, ?_⟩))
  simpa [rawInt] using hQ
theorem next_key_item {it d : Addr} {i n ep : Nat} {od : Obj} {es : Array DictEntry} {en : DictEntry} {Q : Option Value → Shared → Prop} (hit : s.heap.IsKeyIter it d i n ep) (hod : s.heap.get? d = some od) (hdd : od.data = .dict es ep)
    (hsz : es.size = n) (hx : es[i]? = some en) (hQ : ∀ h', h'.IsKeyIter it d (i + 1) n ep → Heap.SameBut it s.heap h' → Q (some en.key) { s with heap := h' }) : wpAny (model prog w) A (pyNext (.ref it)) Q E s := by
  obtain ⟨o, ho, hc, hd⟩ := id hit
  unfold pyNext
  refine wpAny_bind (wpAny_attempt (wpAny_callSpecial?_slot (name := Str.ofString "__next__") hit.typeIs F.slot_dict_keyiterator_next
    (wpAny_call_entry F.slot_dict_keyiterator_next hit.typeIs F.entry_dict_keyiterator_next ?_ (F.args_dict_keyiterator_next_1 _))))
  refine wpAny_bind (wpAny_pure ?_)
  refine wpAny_bind ?_
  refine wpAny_bind ?_
  first | refine wpAny_bind (wpAny_typeNameOfWhole_keyiter hit.typeIs (wpAny_pure ?_)) | refine wpAny_bind (wpAny_typeNameOf_keyiter hit.typeIs (wpAny_pure ?_))
  refine wpAny_bind (wpAny_fieldsOf ho hd ?_)
  have hown : Builtin.Dict_items.ownsTuple "dict_keyiterator" = false := by decide
  simp only [hown, Bool.false_eq_true, if_false]
  show wpAny _ _ (if (Value.ref d == Value.none) = true then _ else _) _ _ s
  rw [if_neg (show ¬ ((Value.ref d == Value.none) = true) from Bool.false_ne_true)]
  refine wpAny_bind (wpAny_pure ?_)
  refine wpAny_bind (wpAny_dictEntries hod hdd ?_)
  rw [if_neg (by rw [hsz]; simp)]
  refine wpAny_bind (wpAny_pure ?_)
  refine wpAny_bind (wpAny_dictEpoch hod hdd ?_)
  rw [if_neg (by simp)]
  refine wpAny_pure ?_
  obtain ⟨hlt', hen⟩ := Array.getElem?_eq_some_iff.mp hx
  simp only [show ¬ ((i : Int) < 0) from by omega, if_false, Int.toNat_natCast, Array.getElem?_eq_getElem hlt']
  refine wpAny_bind ?_
  first | refine wpAny_bind (wpAny_typeNameOfWhole_keyiter hit.typeIs (wpAny_pure ?_)) | refine wpAny_bind (wpAny_typeNameOf_keyiter hit.typeIs (wpAny_pure ?_))
  refine wpAny_bind (wpAny_isOneOf_keyiter hit.typeIs ?_)
  show wpAny _ _ (setField (.ref it) 1 (rawInt ((i : Int) + 1)) >>= _) _ _ s
  refine wpAny_bind (wpAny_setField ho hd (by simp) ?_)
  have hit' : (s.heap.update it (Obj.mapFields (·.setIfInBounds 1 (rawInt ((i : Int) + 1))))).IsKeyIter it d (i + 1) n ep :=
    ⟨_, Heap.get?_update_self _ ho (Obj.isFreed_of_fields (Obj.data_mapFields hd _)), (Obj.cls_mapFields ..).trans hc, by rw [Obj.data_mapFields hd]; simp [rawInt]⟩
  refine wpAny_bind (wpAny_holding ?_)
  refine wpAny_bind (wpAny_isOneOf_keyiter (s := { s with heap := s.heap.update it (Obj.mapFields (·.setIfInBounds 1 (rawInt ((i : Int) + 1)))) }) hit'.typeIs ?_)
  show wpAny _ _ (pure es[i].key) _ _ _
  rw [hen]
  exact wpAny_pure (wpAny_pure ⟨_, rfl, wpAny_pure (hQ _ hit' (Heap.SameBut.update ..))⟩)
theorem next_key_end {it d : Addr} {i n ep : Nat} {od : Obj} {es : Array DictEntry} {Q : Option Value → Shared → Prop} (hh : A.handled = none) (hit : s.heap.IsKeyIter it d i n ep) (hod : s.heap.get? d = some od) (hdd : od.data = .dict es ep)
    (hsz : es.size = n) (hge : n ≤ i) (hQ : ∀ h', Heap.ExtBut it s.heap h' → Q none { s with heap := h' }) : wpAny (model prog w) A (pyNext (.ref it)) Q E s := by
  obtain ⟨o, ho, hc, hd⟩ := id hit
  unfold pyNext
  refine wpAny_bind (wpAny_attempt (wpAny_callSpecial?_slot (name := Str.ofString "__next__") hit.typeIs F.slot_dict_keyiterator_next
    (wpAny_call_entry F.slot_dict_keyiterator_next hit.typeIs F.entry_dict_keyiterator_next ?_ (F.args_dict_keyiterator_next_1 _))))
  refine wpAny_bind (wpAny_pure ?_)
  refine wpAny_bind ?_
  refine wpAny_bind ?_
  first | refine wpAny_bind (wpAny_typeNameOfWhole_keyiter hit.typeIs (wpAny_pure ?_)) | refine wpAny_bind (wpAny_typeNameOf_keyiter hit.typeIs (wpAny_pure ?_))
  refine wpAny_bind (wpAny_fieldsOf ho hd ?_)
  have hown : Builtin.Dict_items.ownsTuple "dict_keyiterator" = false := by decide
  simp only [hown, Bool.false_eq_true, if_false]
  show wpAny _ _ (if (Value.ref d == Value.none) = true then _ else _) _ _ s
  rw [if_neg (show ¬ ((Value.ref d == Value.none) = true) from Bool.false_ne_true)]
  refine wpAny_bind (wpAny_pure ?_)
  refine wpAny_bind (wpAny_dictEntries hod hdd ?_)
  rw [if_neg (by rw [hsz]; simp)]
  refine wpAny_bind (wpAny_pure ?_)
  refine wpAny_bind (wpAny_dictEpoch hod hdd ?_)
  rw [if_neg (by simp)]
  refine wpAny_pure ?_
  have hge' : es.size ≤ i := by rw [hsz]; exact hge
  simp only [show ¬ ((i : Int) < 0) from by omega, if_false, Int.toNat_natCast, Array.getElem?_eq_none hge']
  refine wpAny_bind ?_
  first | refine wpAny_bind (wpAny_typeNameOfWhole_keyiter hit.typeIs (wpAny_pure ?_)) | refine wpAny_bind (wpAny_typeNameOf_keyiter hit.typeIs (wpAny_pure ?_))
  show wpAny _ _ (setField (.ref it) 0 .none >>= _) _ _ s
  refine wpAny_bind (wpAny_setField ho hd (by simp) ?_)
  show wpAny _ _ (newExc (.type "StopIteration") [] >>= _) _ _ _
  refine wpAny_bind ?_
  simp only [newExc, newTuple]
  refine wpAny_bind (wpAny_newObj_type ?_ (by size_fits))
  refine wpAny_bind (m := firstArgMember _ _) (wpAny_of_eq (a := Value.none) (by first | rfl | (simp only [firstArgMember]; rfl)) ?_)
  refine wpAny_newObj_type ?_ (by size_fits)
  simp only [raiseNew]
  refine wpAny_bind (wpAny_handled ?_)
  rw [show A.in1.handled = none from hh]
  refine wpAny_bind (wpAny_pure (wpAny_throw ?_))
  refine wpAny_bind (wpAny_isInstance (T := "StopIteration") (b := true) ⟨_, Heap.get?_push_size _ rfl, rfl⟩ isSubtype_stop ?_)
  exact wpAny_pure (hQ _ (((Heap.SameBut.update ..).extBut.push _).push _))
end
theorem kv_get {κ : Type} {kvs : List (κ × V)} {vs : List (κ × Value)} (h : KV kvs vs) : ∀ {i : Nat} {k : κ} {v : V}, kvs[i]? = some (k, v) → ∃ u, vs[i]? = some (k, u) ∧ RelV v u := by
  unfold KV at h
  induction h with
  | nil => intro i k v e; simp at e
  | @cons a b l₁ l₂ r t ih =>
    intro i k v e
    cases i with
    | zero =>
      simp only [List.getElem?_cons_zero, Option.some.injEq] at e
      subst e
      refine ⟨b.2, ?_, r.2⟩
      simp only [List.getElem?_cons_zero]
      exact congrArg some (Prod.ext r.1.symm rfl)
    | succ j =>
      simp only [List.getElem?_cons_succ] at e ⊢
      exact ih e
theorem paired_get {α β : Type} {G : α → β → Prop} {l₁ : List α} {l₂ : List β} (h : Paired G l₁ l₂) : ∀ {i : Nat} {a : α}, l₁[i]? = some a → ∃ b, l₂[i]? = some b ∧ G a b := by
  induction h with
  | nil => intro i a e; simp at e
  | @cons a b l₁ l₂ r t ih =>
    intro i a' e
    cases i with
    | zero =>
      simp only [List.getElem?_cons_zero, Option.some.injEq] at e
      subst e
      exact ⟨b, rfl, r⟩
    | succ j =>
      simp only [List.getElem?_cons_succ] at e ⊢
      exact ih e
theorem relV_key {k : Key} {u : Value} (h : keyIs k u = true) : RelV (kV k) u := by
  rcases keyIs_shape h with ⟨i, t, rfl, rfl⟩ | ⟨x, t, rfl, rfl⟩
  · exact ⟨t, rfl⟩
  · exact ⟨t, rfl⟩
section
variable {X : Cx} {pins : List (Addr × Obj)} {σ : St} {H : Hp} {s : Shared} {d : Addr} {o : Obj}
theorem Inv.frzK {kvs : List (Key × V)} (I : Inv X pins σ H s) (h : H d = some (.frz o (.dK kvs))) :
    (d == sysModules) = false ∧ s.heap.get? d = some o ∧ o.ExactDict ∧ ∃ (es : Array DictEntry) (ep : Nat) (vs : List (Key × Value)), o.data = .dict es ep ∧ es.size = kvs.length ∧ KV kvs vs ∧ s.heap.DictAt (mixKind X.prog X.w) d vs ep := by
  obtain ⟨hd, z, hs, vs, kv, o', es, ep, ho, hx, hdt, r⟩ := I.hok d _ h
  rw [hd] at ho
  cases ho
  refine ⟨hs, hd, hx, es, ep, vs, hdt, ?_, kv, o, es, hd, hx, hdt, r⟩
  have l1 := r.2.1.length
  have l2 : kvs.length = vs.length := Paired.length kv
  rw [Array.length_toList] at l1
  omega
theorem Inv.frzT {kvs : List (List Key × V)} (I : Inv X pins σ H s) (h : H d = some (.frz o (.dT kvs))) :
    (d == sysModules) = false ∧ s.heap.get? d = some o ∧ o.ExactDict ∧ ∃ (es : Array DictEntry) (ep : Nat), o.data = .dict es ep ∧ es.size = kvs.length ∧
      ∀ (i : Nat) (k : List Key) (v : V), kvs[i]? = some (k, v) → ∃ (en : DictEntry) (q : Addr), es[i]? = some en ∧ en.key = .ref q ∧ H q = some (.tup (k.map kV)) := by
  obtain ⟨hd, z, hs, xs, pr, o', es, ep, ho, hx, hdt, he, _⟩ := I.hok d _ h
  rw [hd] at ho
  cases ho
  refine ⟨hs, hd, hx, es, ep, hdt, ?_, fun i k v e => ?_⟩
  · have l1 : es.size = xs.length := size_of_entries he
    have l2 : kvs.length = xs.length := Paired.length pr
    omega
  · obtain ⟨b, hb, e1, e2, _⟩ := paired_get pr e
    have q := entry_at he i
    rw [hb] at q
    exact ⟨_, b.2.1, q, rfl, e2⟩
end
def Itk (d : Addr) (o : Obj) (kvs : List (Key × V)) : It :=
  ⟨fun i H => H d = some (.frz o (.dK kvs)) ∧ i < kvs.length, fun i H x H' => H' = H ∧ ∃ k v, kvs[i]? = some (k, v) ∧ x = kV k, fun i H => H d = some (.frz o (.dK kvs)) ∧ kvs.length ≤ i⟩
def Itkt (d : Addr) (o : Obj) (kvs : List (List Key × V)) : It :=
  ⟨fun i H => H d = some (.frz o (.dT kvs)) ∧ i < kvs.length, fun i H x H' => H' = H ∧ ∃ (k : List Key) (v : V) (q : Addr), kvs[i]? = some (k, v) ∧ x = .ref q ∧ H q = some (.tup (k.map kV)), fun i H => H d = some (.frz o (.dT kvs)) ∧ kvs.length ≤ i⟩
def Itd (d : Addr) (o : Obj) (kvs : List (Key × V)) : It :=
  ⟨fun i H => H d = some (.frz o (.dK kvs)) ∧ i < kvs.length, fun i H x H' => H' = H ∧ ∃ k, kvs[i]? = some (k, x), fun i H => H d = some (.frz o (.dK kvs)) ∧ kvs.length ≤ i⟩
def Iti (d : Addr) (o : Obj) (kvs : List (Key × V)) : It :=
  ⟨fun i H => H d = some (.frz o (.dK kvs)) ∧ i < kvs.length, fun i H x H' => ∃ T k v, kvs[i]? = some (k, v) ∧ x = .ref T ∧ H T = none ∧ H' = upd H T (.tup [kV k, v]), fun i H => H d = some (.frz o (.dK kvs)) ∧ kvs.length ≤ i⟩
theorem dict_ep {o : Obj} {es es' : Array DictEntry} {ep ep' : Nat} (h : o.data = .dict es ep) (h' : o.data = .dict es' ep') : es' = es ∧ ep' = ep := by
  rw [h] at h'
  cases h'
  exact ⟨rfl, rfl⟩
section
variable {P : Program} {w : World} {K : PySem.W.Frag} {tg : Expr} {d : Addr} {o : Obj} {es : Array DictEntry} {ep : Nat}
theorem turn_keys {kvs : List (Key × V)} (it : Addr) (hod : o.data = .dict es ep) : Turn P w K tg (Itk d o kvs) [it] it (fun i h => h.IsKeyIter it d i kvs.length ep) where
  mem := by simp
  obj := fun i h st b hb => by
    have e : b = it := by simpa using hb
    subst e
    obtain ⟨oi, e, c, dd⟩ := st
    exact ⟨oi, e, fun v z => by rw [dd] at z; cases z⟩
  keep := fun i h h' st k => st.at fun oi e => k it (by simp) oi e
  item := by
    intro X hP hw hK hc i pins s σ H E I hf st hg
    subst hP hw hK
    obtain ⟨hd, hi⟩ := hg
    obtain ⟨f0, f1, f2, f3, f4, f5⟩ := hf it (by simp)
    obtain ⟨hs, hgd, hx, es', ep', vs, hdt, hsz, kv, hm⟩ := I.frzK hd
    obtain ⟨rfl, rfl⟩ := dict_ep hod hdt
    obtain ⟨⟨k, v⟩, hkv⟩ : ∃ p, kvs[i]? = some p := ⟨kvs[i], List.getElem?_eq_getElem hi⟩
    obtain ⟨u, hu, ru⟩ := kv_get kv hkv
    have hl : kvs.length = vs.length := Paired.length kv
    rw [hl] at st
    refine wpAny_pyNext_dict_item st hm hu fun key h' hkey st' sb => ?_
    have I1 : Inv X pins σ H { s with heap := h' } := I.turned (t' := s.toks) (fun b ob hb e => (sb.2 b hb).trans e) f0 f1 f3 f4 f5
    obtain ⟨oi, e, c, dd⟩ := id st'
    refine ⟨key, rfl, go_of (s := { s with heap := h' }) e c dd (by decide) ⟨kV k, H, I1, relV_key (show keyIs k key = true from hkey), ⟨rfl, k, v, hkv, rfl⟩, ?_, fun b hb => (hf b hb).1⟩⟩
    show h'.IsKeyIter it d (i + 1) kvs.length _
    rw [hl]
    exact st'
  done := by
    intro X hP hw hK hc i pins s σ H E I hf st hg
    subst hP hw hK
    obtain ⟨hd, hi⟩ := hg
    obtain ⟨f0, f1, f2, f3, f4, f5⟩ := hf it (by simp)
    obtain ⟨hs, hgd, hx, es', ep', vs, hdt, hsz, kv, hm⟩ := I.frzK hd
    obtain ⟨rfl, rfl⟩ := dict_ep hod hdt
    exact next_key_end (I.ok.hd hc) st hgd hdt hsz hi fun h' eb => ⟨rfl, I.turned (t' := s.toks) (fun b ob hb e => eb b ob hb e) f0 f1 f3 f4 f5⟩
  self := fun A i s Q E st h => wpAny_pyIter_keyiter st h
theorem turn_keysT {kvs : List (List Key × V)} (it : Addr) (hod : o.data = .dict es ep) : Turn P w K tg (Itkt d o kvs) [it] it (fun i h => h.IsKeyIter it d i kvs.length ep) where
  mem := by simp
  obj := fun i h st b hb => by
    have e : b = it := by simpa using hb
    subst e
    obtain ⟨oi, e, c, dd⟩ := st
    exact ⟨oi, e, fun v z => by rw [dd] at z; cases z⟩
  keep := fun i h h' st k => st.at fun oi e => k it (by simp) oi e
  item := by
    intro X hP hw hK hc i pins s σ H E I hf st hg
    subst hP hw hK
    obtain ⟨hd, hi⟩ := hg
    obtain ⟨f0, f1, f2, f3, f4, f5⟩ := hf it (by simp)
    obtain ⟨hs, hgd, hx, es', ep', hdt, hsz, ent⟩ := I.frzT hd
    obtain ⟨rfl, rfl⟩ := dict_ep hod hdt
    obtain ⟨⟨k, v⟩, hkv⟩ : ∃ p, kvs[i]? = some p := ⟨kvs[i], List.getElem?_eq_getElem hi⟩
    obtain ⟨en, q, hen, hkey, hq⟩ := ent i k v hkv
    refine next_key_item st hgd hdt hsz hen fun h' st' sb => ?_
    have I1 : Inv X pins σ H { s with heap := h' } := I.turned (t' := s.toks) (fun b ob hb e => (sb.2 b hb).trans e) f0 f1 f3 f4 f5
    obtain ⟨oi, e, c, dd⟩ := id st'
    exact ⟨en.key, rfl, go_of (s := { s with heap := h' }) e c dd (by decide) ⟨.ref q, H, I1, hkey, ⟨rfl, k, v, q, hkv, rfl, hq⟩, st', fun b hb => (hf b hb).1⟩⟩
  done := by
    intro X hP hw hK hc i pins s σ H E I hf st hg
    subst hP hw hK
    obtain ⟨hd, hi⟩ := hg
    obtain ⟨f0, f1, f2, f3, f4, f5⟩ := hf it (by simp)
    obtain ⟨hs, hgd, hx, es', ep', hdt, hsz, ent⟩ := I.frzT hd
    obtain ⟨rfl, rfl⟩ := dict_ep hod hdt
    exact next_key_end (I.ok.hd hc) st hgd hdt hsz hi fun h' eb => ⟨rfl, I.turned (t' := s.toks) (fun b ob hb e => eb b ob hb e) f0 f1 f3 f4 f5⟩
  self := fun A i s Q E st h => by
    refine wpAny_pyIter_slot st.typeIs F.slot_dict_keyiterator_iter (wpAny_call_entry F.slot_dict_keyiterator_iter st.typeIs F.entry_dict_keyiterator_iter ?_ (F.args_dict_keyiterator_iter_1 _))
    show wpAny _ _ (ret (.ref it)) _ _ s
    exact wpAny_pure ⟨_, rfl, "dict_keyiterator", _, st.typeIs, F.slot_dict_keyiterator_next.lookup, h⟩
theorem turn_vals {kvs : List (Key × V)} (it : Addr) (hod : o.data = .dict es ep) : Turn P w K tg (Itd d o kvs) [it] it (fun i h => h.IsValIter it d i kvs.length ep) where
  mem := by simp
  obj := fun i h st b hb => by
    have e : b = it := by simpa using hb
    subst e
    obtain ⟨oi, e, c, dd⟩ := st
    exact ⟨oi, e, fun v z => by rw [dd] at z; cases z⟩
  keep := fun i h h' st k => st.at fun oi e => k it (by simp) oi e
  item := by
    intro X hP hw hK hc i pins s σ H E I hf st hg
    subst hP hw hK
    obtain ⟨hd, hi⟩ := hg
    obtain ⟨f0, f1, f2, f3, f4, f5⟩ := hf it (by simp)
    obtain ⟨hs, hgd, hx, es', ep', vs, hdt, hsz, kv, hm⟩ := I.frzK hd
    obtain ⟨rfl, rfl⟩ := dict_ep hod hdt
    obtain ⟨⟨k, v⟩, hkv⟩ : ∃ p, kvs[i]? = some p := ⟨kvs[i], List.getElem?_eq_getElem hi⟩
    obtain ⟨u, hu, ru⟩ := kv_get kv hkv
    have hl : kvs.length = vs.length := Paired.length kv
    rw [hl] at st
    refine wpAny_pyNext_values_item st hm hu fun h' st' sb => ?_
    have I1 : Inv X pins σ H { s with heap := h' } := I.turned (t' := s.toks) (fun b ob hb e => (sb.2 b hb).trans e) f0 f1 f3 f4 f5
    obtain ⟨oi, e, c, dd⟩ := id st'
    refine ⟨u, rfl, go_of (s := { s with heap := h' }) e c dd (by decide) ⟨v, H, I1, ru, ⟨rfl, k, hkv⟩, ?_, fun b hb => (hf b hb).1⟩⟩
    show h'.IsValIter it d (i + 1) kvs.length _
    rw [hl]
    exact st'
  done := by
    intro X hP hw hK hc i pins s σ H E I hf st hg
    subst hP hw hK
    obtain ⟨hd, hi⟩ := hg
    obtain ⟨f0, f1, f2, f3, f4, f5⟩ := hf it (by simp)
    obtain ⟨hs, hgd, hx, es', ep', vs, hdt, hsz, kv, hm⟩ := I.frzK hd
    obtain ⟨rfl, rfl⟩ := dict_ep hod hdt
    have hl : kvs.length = vs.length := Paired.length kv
    rw [hl] at st
    exact wpAny_pyNext_values_end (I.ok.hd hc) st hm (List.getElem?_eq_none (by omega)) fun h' eb => ⟨rfl, I.turned (t' := s.toks) (fun b ob hb e => eb b ob hb e) f0 f1 f3 f4 f5⟩
  self := fun A i s Q E st h => wpAny_pyIter_valiter st h
theorem turn_items {kvs : List (Key × V)} {elts : List Expr} {kk : Nat} {tpos : Pos} (it : Addr) (hod : o.data = .dict es ep) :
    Turn P w K (.Tuple elts kk tpos) (Iti d o kvs) [it] it (fun i h => ∃ ok ov, IsItemIter h it d i kvs.length ep ok ov) where
  mem := by simp
  obj := fun i h st b hb => by
    have e : b = it := by simpa using hb
    subst e
    obtain ⟨ok, ov, e⟩ := st
    exact ⟨_, e, fun v z => nomatch z⟩
  keep := fun i h h' st k => let ⟨ok, ov, e⟩ := st; ⟨ok, ov, k it (by simp) _ e⟩
  item := by
    intro X hP hw hK hc i pins s σ H E I hf st hg
    subst hP hw hK
    obtain ⟨hd, hi⟩ := hg
    obtain ⟨hs, hgd, hx, es', ep', vs, hdt, hsz, kv, hm⟩ := I.frzK hd
    obtain ⟨rfl, rfl⟩ := dict_ep hod hdt
    obtain ⟨⟨k, v⟩, hkv⟩ : ∃ p, kvs[i]? = some p := ⟨kvs[i], List.getElem?_eq_getElem hi⟩
    obtain ⟨u, hu, ru⟩ := kv_get kv hkv
    have hl : kvs.length = vs.length := Paired.length kv
    obtain ⟨ok, ov, he⟩ := st
    rw [hl] at he
    have hlt : it < s.heap.objs.size := Heap.lt_size he
    refine wpAny_pyNext_items_item he hm hu fun key h' hkey ho hT hz hk => ?_
    refine ⟨_, rfl, wpAny_letOwnedTupleGo_items (s := { s with heap := h' }) ho fun h'' he' sb => ?_⟩
    have hT2 : h''.get? s.heap.objs.size = some { cls := .type "tuple", data := .seq #[key, u] } := (sb.2 _ (Nat.ne_of_gt hlt)).trans hT
    have new : ObjOk X.prog X.w (upd H s.heap.objs.size (.tup [kV k, v])) h'' s.heap.objs.size (.tup [kV k, v]) :=
      ⟨by show 2 ≤ sizeLine; decide, [key, u], .cons (relV_key (show keyIs k key = true from hkey)) (.cons ru .nil), ⟨_, hT2, rfl, _, rfl⟩⟩
    have I1 : Inv X pins σ (upd H s.heap.objs.size (.tup [kV k, v])) { s with heap := h'' } :=
      I.turnedNew (t' := s.toks) (ch := [it]) (fun b ob hb e => (sb.2 b (by simpa using hb)).trans (hk b ob (by simpa using hb) e)) hf (Nat.le_refl _) new
    refine ⟨.ref s.heap.objs.size, _, I1, rfl, ⟨_, k, v, hkv, rfl, I.hok.fresh (Nat.le_refl _), rfl⟩, ⟨key, u, ?_⟩, fun b hb => ?_⟩
    · rw [hl]; exact he'
    · have e : b = it := by simpa using hb
      rw [e, upd_ne (Nat.ne_of_lt hlt)]
      exact (hf it (by simp)).1
  done := by
    intro X hP hw hK hc i pins s σ H E I hf st hg
    subst hP hw hK
    obtain ⟨hd, hi⟩ := hg
    obtain ⟨f0, f1, f2, f3, f4, f5⟩ := hf it (by simp)
    obtain ⟨hs, hgd, hx, es', ep', vs, hdt, hsz, kv, hm⟩ := I.frzK hd
    obtain ⟨rfl, rfl⟩ := dict_ep hod hdt
    have hl : kvs.length = vs.length := Paired.length kv
    obtain ⟨ok, ov, he⟩ := st
    rw [hl] at he
    exact wpAny_pyNext_items_end (I.ok.hd hc) he hm (List.getElem?_eq_none (by omega)) fun h' eb => ⟨rfl, I.turned (t' := s.toks) (fun b ob hb e => eb b ob hb e) f0 f1 f3 f4 f5⟩
  self := fun A i s Q E st h => let ⟨_, _, e⟩ := st; PySem.W.kcp_self e h
end
def iKeys (td : TE) : TI := fun σ H R => td σ H fun x H1 => ∃ d o, x = .ref d ∧ ((∃ kvs, H1 d = some (.frz o (.dK kvs)) ∧ R (Itk d o kvs) H1) ∨ ∃ kvs, H1 d = some (.frz o (.dT kvs)) ∧ R (Itkt d o kvs) H1)
def iItems (td : TE) : TI := fun σ H R => td σ H fun x H1 => ∃ d o kvs, x = .ref d ∧ H1 d = some (.frz o (.dK kvs)) ∧ R (Iti d o kvs) H1
section
variable {X : Cx} {tg e : Expr} {td : TE} {apos cpos : Pos}
theorem pi_keys (he : PE X e td) : PI X tg e (iKeys td) := by
  intro pins s σ H R I h
  refine thn (he pins s σ H _ I h) fun u s1 ⟨x, H1, I1, rx, d, o, ex, q⟩ => ?_
  subst ex
  obtain rfl : u = Value.ref d := rx
  rcases q with ⟨kvs, hd, q⟩ | ⟨kvs, hd, q⟩
  · obtain ⟨hs, hgd, hx, es, ep, vs, hdt, hsz, kv, hm⟩ := I1.frzK hd
    refine iter_keys hs hgd hx hdt (pi_one (tk := s1.toks) I1 _ (turn_keys _ hdt) ⟨_, Heap.get?_push_size _ rfl, rfl, ?_⟩ q)
    rw [hsz] <;> rfl
  · obtain ⟨hs, hgd, hx, es, ep, hdt, hsz, ent⟩ := I1.frzT hd
    refine iter_keys hs hgd hx hdt (pi_one (tk := s1.toks) I1 _ (turn_keysT _ hdt) ⟨_, Heap.get?_push_size _ rfl, rfl, ?_⟩ q)
    rw [hsz] <;> rfl
theorem pi_items {elts : List Expr} {kk : Nat} {tpos : Pos} (he : PE X e td) (hbase : attributeBase e "items" X.env (eval e X.env) = eval e X.env := by rfl) (hline : (apos.endLine == cpos.line) = true := by rfl) :
    PI X (.Tuple elts kk tpos) (.Call (.Attribute e "items" apos) [] [] cpos) (iItems td) := by
  intro pins s σ H R I h
  refine wpAny_Call_method (T := "dict") (id := "dict.items") hbase rfl hline F.plainAttrs_dict F.slot_dict_items F.type_dict_items (thn (he pins s σ H _ I h) fun u s1 ⟨x, H1, I1, rx, d, o, kvs, ex, hd, q⟩ => ?_)
  subst ex
  obtain rfl : u = Value.ref d := rx
  obtain ⟨hs, hgd, hx, es, ep, vs, hdt, hsz, kv, hm⟩ := I1.frzK hd
  have hl : kvs.length = vs.length := Paired.length kv
  refine ⟨hm.dictOf.typeIs, hm.dictOf.mapOf.noDict, ?_⟩
  have I2 : Inv X pins σ H1 { s1 with heap := s1.heap.push { cls := .type "dict_items", data := .fields #[.ref d] } } := I1.kept (t' := s1.toks) fun b ob q => Heap.get?_push_of_some _ q
  have fin : wpAny (model X.prog X.w) X.A (pyIter (.ref s1.heap.objs.size)) (PIE X pins σ (.Tuple elts kk tpos) R) X.xe { s1 with heap := s1.heap.push { cls := .type "dict_items", data := .fields #[.ref d] } } := by
    refine wpAny_pyIter_items (d := d) (knd := mixKind X.prog X.w) ⟨_, Heap.get?_push_size _ rfl, rfl, rfl⟩ (hm.push _) (pi_one (tk := s1.toks) I2 _ (turn_items _ hdt) ⟨.none, .none, ?_⟩ q)
    rw [hl]
    exact Heap.get?_push_size _ rfl
  show wpAny _ _ (callWith cpos (.builtin "dict.items") [.ref d] [] []) _ X.xe s1
  exact method_meetsIn F.slot_dict_items F.entry_dict_items rfl (PySem.evalArgs_none ⟨rfl, hm.dictOf.typeIs, F.args_dict_items_1 _, _, meets_dict_items (mixKind X.prog X.w) d hs, ⟨vs, hm.dictOf⟩, fin⟩)
end
end L2
section 
namespace Bits
open PySem PyProof.Rows
end Bits
end 
section 
namespace TL
open PySem PySem.Builtin PySem.Builtin.Str PySem.StrLaws
end TL
end 
namespace L2
open PySem PySem.Spec PyProof.Rows
section
variable {X : Cx} {pins : List (Addr × Obj)} {σ : St} {H : Hp} {s : Shared} {Q : VK}
end
section
variable {X : Cx}
end
section
variable {X : Cx} {o e : Expr} {to te : TE}
end
end L2
namespace L2
open PySem PySem.Spec PyProof.Rows
section
variable {X : Cx}
end
end L2
namespace Att
open PySem PySem.W PySem.Calls PyProof.Rows
section
variable {prog : Program} {w : World} {A : Around} {E : Value → Shared → Prop} {s : Shared} {K : Frag}
end
end Att
namespace L2
open PySem PySem.Spec PyProof.Rows
end L2
namespace L2
open PySem PySem.Spec PyProof.Rows
end L2
namespace L2
open PySem PySem.Spec PyProof.Rows
def inClass (s : Stmt) (j : Nat) : Stmt := match s with
  | .ClassDef _ _ _ body _ _ _ _ _ _ _ => body.getD j (.Pass ⟨0, 0, 0, 0⟩)
  | _ => .Pass ⟨0, 0, 0, 0⟩
def defArgs (s : Stmt) : Arguments := match s with
  | .FunctionDef _ a _ _ _ _ _ _ _ _ => a
  | _ => { posonlyargs := [], args := [], vararg := none, kwonlyargs := [], kw_defaults := [], kwarg := none, defaults := [] }
def defBody (s : Stmt) : List Stmt := match s with
  | .FunctionDef _ _ b _ _ _ _ _ _ _ => b
  | _ => []
def defScope (s : Stmt) : Scope := match s with
  | .FunctionDef _ _ _ _ _ _ sc _ _ _ => sc
  | _ => { kind := .function, names := [], isGenerator := false, isCoroutine := false }
abbrev CX0 : CXT := fun _ _ _ _ _ _ => False
abbrev E0 : XK := fun _ _ _ => False
theorem pass0 {X : Cx} : Passes CX0 X E0 := fun _ _ _ _ _ _ _ h => h.elim
structure Fun (K : PySem.W.Frag) (x qual : Str) (st : Stmt) (f : Addr) (fd : FuncData) : Prop where
  ex : ∃ (oc : Value) (od : Option Addr) (kV doc pm : Value) (an : Option Addr) (cdv ct : Value) (osl : Array (Option Value)),
    fd = PySem.W.fnOf x qual (defArgs st) (defBody st) (defScope st) .none kV doc pm an cdv ct ∧ K.lookup f = some ⟨oc, od, .func fd, osl⟩ ∧ PySem.W.codeIn K cdv qual = true
  kp : PySem.W.keepIn K (.ref f) = true
section
variable {P : Program} {w : World} {K : PySem.W.Frag} {mg : Str → Option Value} {base : Heap}
theorem Fun.ok {x qual : Str} {st : Stmt} {f : Addr} {fd : FuncData} {N ps : List Str} {k : Nat} {sp : Sp} (F : Fun K x qual st f fd) (S : FnScope N ps (defScope st)) (len : ∀ vs H Q E, sp vs H Q E → vs.length = ps.length)
    (hbody : ∀ (cdv : Value) (A : Around) (outer : List Env) (s : Shared) (H : Hp) (vs : List V) (Q : VK) (E : XK), Room k (A.deeper (envOfC qual (defScope st) s.heap.objs.size f cdv)) → sp vs H Q E →
      ∃ t, PSs (cxOf CX0 P w K mg base N qual (defScope st) f cdv A outer s H E).nox (defBody st) t ∧ t { nx := fun _ H' => Q .non H', rt := Q } (start N vs) H) : FnOk P w K mg base CX0 (k + 1) f fd ps sp := by
  obtain ⟨oc, od, kV, doc, pm, an, cdv, ct, osl, rfl, lk, hcd⟩ := F.ex
  refine fn_of lk hcd S len fun A outer s H vs Q E hr hsp => ?_
  obtain ⟨t, h, q⟩ := hbody cdv A outer s H vs Q E hr hsp
  exact ⟨t, h.nox, q⟩
theorem Fun.binds {x qual : Str} {st : Stmt} {f : Addr} {fd : FuncData} {ps : List Str} (F : Fun K x qual st f fd)
    (h : ∀ (kV doc pm : Value) (an : Option Addr) (cdv ct : Value) (us : List Value), us.length = ps.length → bindArgs (PySem.W.fnOf x qual (defArgs st) (defBody st) (defScope st) .none kV doc pm an cdv ct) ⟨us, []⟩ = pure (ps.zip us)) : Binds K fd ps [] := by
  obtain ⟨oc, od, kV, doc, pm, an, cdv, ct, osl, rfl, lk, hcd⟩ := F.ex
  exact .all (h kV doc pm an cdv ct)
theorem fun_mk {x qual : Str} {st : Stmt} {f : Addr} {oc : Value} {od an : Option Addr} {osl : Array (Option Value)} {kV doc pm cdv ct : Value} (l : K.lookup f = some ⟨oc, od, .func (PySem.W.fnOf x qual (defArgs st) (defBody st) (defScope st) .none kV doc pm an cdv ct), osl⟩)
    (c : PySem.W.codeIn K cdv qual = true) (k : PySem.W.keepIn K (.ref f) = true) : Fun K x qual st f (PySem.W.fnOf x qual (defArgs st) (defBody st) (defScope st) .none kV doc pm an cdv ct) := ⟨⟨oc, od, kV, doc, pm, an, cdv, ct, osl, rfl, l, c⟩, k⟩
end
theorem hu_of {A : Around} {k : Nat} (hr : Room k A) : A.units + 1 < cLine := Nat.lt_of_le_of_lt (Nat.add_le_add_left (by decide : 1 ≤ 64) _) hr.units
theorem small1000 {n : Nat} (h : n ≤ 1000) : n < sizeLine := Nat.lt_of_le_of_lt h (by decide)
section
variable {X : Cx}
theorem pv (i : Nat) {x : Str} {pos : Pos} (hN : X.N[i]? = some x := by rfl) (hv : Vis X.env.scope x := by first | exact Or.inl rfl | exact Or.inr (Or.inl rfl) | exact Or.inr (Or.inr rfl)) (hd : (x == ("__debug__" : Str)) = false := by decide)
    (hcd : (x == ("__classdict__" : Str)) = false := by decide) : PE X (.Name x pos) (tVar i) := pe_var hN hv hd hcd
theorem call_lenD : CallR X (.builtin "len") (fun xs H Q => ∃ a kvs, xs = [V.ref a] ∧ H a = some (.dK kvs) ∧ Q (.int kvs.length) H) := by
  intro pins s σ H xs us Q I r h
  obtain ⟨a, kvs, rfl, ha, q⟩ := h
  obtain ⟨u, rfl, ru⟩ := vals1 r
  cases ru
  exact d_len I (.inl ha) fun t s' I' => ⟨.int kvs.length, H, I', ⟨t, rfl⟩, q⟩
end
theorem ite2 {c A B : Prop} [Decidable c] (h1 : c → A) (h2 : ¬ c → B) : if c then A else B := by
  by_cases h : c
  · rw [if_pos h]
    exact h1 h
  · rw [if_neg h]
    exact h2 h
def Same (H H' : Hp) : Prop := ∀ b o, H b = some o → H' b = some o
theorem Same.refl (H : Hp) : Same H H := fun _ _ h => h
theorem Same.trans {H H1 H2 : Hp} (a : Same H H1) (b : Same H1 H2) : Same H H2 := fun c o h => b c o (a c o h)
theorem Same.free {H H' : Hp} (e : Same H H') {l : Addr} (h : H' l = Option.none) : H l = Option.none := by
  cases q : H l with
  | none => rfl
  | some o =>
    rw [e l o q] at h
    cases h
theorem Same.seq {K : PySem.W.Frag} {H H' : Hp} {a : Addr} {xs : List V} (e : Same H H') (h : SqL K H a xs) : SqL K H' a xs := by
  rcases h with (h | ⟨o, h⟩) | h
  · exact .inl (.inl (e _ _ h))
  · exact .inl (.inr ⟨o, e _ _ h⟩)
  · exact .inr h
section
variable {κ : Type} [DecidableEq κ]
theorem valV_not {kvs : List (κ × V)} {k : κ} (h : valV kvs k = none) : ¬ k ∈ kvs.map (·.1) := by
  intro m
  obtain ⟨p, hp, e⟩ := List.mem_map.mp m
  have q : (kvs.any fun kv => decide (kv.1 = k)) = true := List.any_eq_true.mpr ⟨p, hp, decide_eq_true e⟩
  rw [valV_any, h] at q
  exact absurd q (by simp)
theorem valV_in {kvs : List (κ × V)} {k : κ} {v : V} (h : valV kvs k = some v) : k ∈ kvs.map (·.1) := by
  have q : (kvs.any fun kv => decide (kv.1 = k)) = true := by
    rw [valV_any, h]
    all_goals rfl
  obtain ⟨p, hp, e⟩ := List.any_eq_true.mp q
  exact List.mem_map.mpr ⟨p, hp, of_decide_eq_true e⟩
theorem nd_snoc : ∀ {l : List κ} {k : κ}, l.Nodup → ¬ k ∈ l → (l ++ [k]).Nodup
  | [], k, _, _ => by simp
  | a :: r, k, h, hk => by
    obtain ⟨h1, h2⟩ := List.nodup_cons.mp h
    show (a :: (r ++ [k])).Nodup
    refine List.nodup_cons.mpr ⟨fun m => ?_, nd_snoc h2 fun m => hk (List.mem_cons.mpr (Or.inr m))⟩
    rcases List.mem_append.mp m with q | q
    · exact h1 q
    · exact hk (List.mem_cons.mpr (Or.inl (List.mem_singleton.mp q).symm))
theorem nd_putK {kvs : List (κ × V)} {k : κ} (v : V) (hn : (kvs.map (·.1)).Nodup) (h : valV kvs k = none) : ((putK kvs k v).map (·.1)).Nodup := by
  rw [putK_new v h, List.map_append]
  exact nd_snoc hn (valV_not h)
end
theorem at_of {xs : List V} {z : Int} {j : Nat} {v : V} (e : z = (j : Int)) (h : xs[j]? = some v) : atI xs z = some v := by
  rw [e]
  exact atI_nat h
theorem nd_ix {α : Type} {l : List α} (hN : l.Nodup) {i j : Nat} {x : α} (a : l[i]? = some x) (b : l[j]? = some x) : i = j := by
  obtain ⟨h1, e1⟩ := List.getElem?_eq_some_iff.mp a
  obtain ⟨h2, e2⟩ := List.getElem?_eq_some_iff.mp b
  exact (List.getElem_inj hN).mp (e1.trans e2.symm)
theorem Same.made {H H1 : Hp} {x dx C : Addr} (nx : H x = Option.none) (nd : H dx = Option.none) (k : ∀ b o, (upd (upd H dx (.own x)) x (.ins C dx [])) b = some o → b ≠ x → H1 b = some o) : Same H H1 := fun b o e =>
  k b o (by rw [upd_ne (ne_of_none e nx), upd_ne (ne_of_none e nd)]; exact e) (ne_of_none e nx)
end L2
end
section
set_option linter.all false
section
set_option Elab.async false
set_option linter.all false
set_option maxRecDepth 100000
set_option maxHeartbeats 2000000
namespace L2
open PySem PySem.Spec PyProof.Rows
open PySem.W (WData Codec OpenSpec Well WellAll ReadsW ReadsAllW)
mutual
inductive Dw (K : PySem.W.Frag) (H : Hp) : V → WData → Prop
  | non : Dw K H .non .none
  | bl (b : Bool) : Dw K H (.bl b) (.bool b)
  | int (i : Int) : Dw K H (.int i) (.int i)
  | str (x : Str) : Dw K H (.str x) (.str x)
  | byt (b : Array UInt8) : Dw K H (.byt b) (.bytes b.toList)
  | lst {a : Addr} {xs : List V} {ds : List WData} : SqL K H a xs → DwAll K H xs ds → Dw K H (.ref a) (.list ds)
  | tup {a : Addr} {xs : List V} {ds : List WData} : SqT K H a xs → DwAll K H xs ds → Dw K H (.ref a) (.tuple ds)
inductive DwAll (K : PySem.W.Frag) (H : Hp) : List V → List WData → Prop
  | nil : DwAll K H [] []
  | cons {v : V} {vs : List V} {d : WData} {ds : List WData} : Dw K H v d → DwAll K H vs ds → DwAll K H (v :: vs) (d :: ds)
end
theorem dw_ints {K : PySem.W.Frag} {H : Hp} : ∀ ns : List Int, DwAll K H (ns.map V.int) (ns.map WData.int)
  | [] => .nil
  | n :: r => .cons (.int n) (dw_ints r)
theorem ints_dw {K : PySem.W.Frag} {H : Hp} : ∀ (ns : List Int) (xs : List V), DwAll K H xs (ns.map WData.int) → xs = ns.map V.int
  | [], xs, h => by
    cases h
    rfl
  | n :: r, xs, h => by
    cases h with
    | cons h1 h2 =>
      cases h1
      rw [ints_dw r _ h2] <;> rfl
section
variable {P : Program} {w : World} {K : PySem.W.Frag} {H : Hp} {h : Heap} {R : PySem.W.WRecords} {cl : Str → Option Addr}
theorem sqL_at {a : Addr} {xs : List V} (hok : HOk P w H h) (KX : K.In h) (q : SqL K H a xs) : ∃ (its : List Value) (o : Obj) (n : Nat), Vals xs its ∧ h.get? a = some o ∧ o.cls = .type "list" ∧ o.data = .seq its.toArray n := by
  rcases q with q | ⟨o, its, n, e, hc, _, hd, _, hv⟩
  · obtain ⟨_, its, n, hv, e⟩ := (show ObjOk P w H h a (.lst xs) from q.ok hok)
    exact ⟨its, _, n, hv, e, rfl, rfl⟩
  · exact ⟨its.toList, o, n, hv, KX _ _ e, hc, by simp [hd]⟩
theorem sqT_at {a : Addr} {xs : List V} (hok : HOk P w H h) (KX : K.In h) (q : SqT K H a xs) : ∃ (its : List Value) (o : Obj) (n : Nat), Vals xs its ∧ h.get? a = some o ∧ o.cls = .type "tuple" ∧ o.data = .seq its.toArray n := by
  rcases q with q | ⟨o, its, n, e, hc, hd, _, hv⟩
  · obtain ⟨_, its, hv, o, e, hc, n, hd⟩ := (show ObjOk P w H h a (.tup xs) from q.ok hok)
    exact ⟨its, o, n, hv, e, hc, hd⟩
  · exact ⟨its.toList, o, n, hv, KX _ _ e, hc, by simp [hd]⟩
mutual
theorem Dw.reads (hok : HOk P w H h) (KX : K.In h) : ∀ (d : WData) (v : V) (u : Value), Dw K H v d → RelV v u → ∃ as, ReadsW R cl h u d as
  | .none, _, _, x, r => by
    cases x
    cases r
    exact ⟨_, ReadsW.none⟩
  | .bool b, _, _, x, r => by
    cases x
    cases r
    exact ⟨_, ReadsW.bool b⟩
  | .int i, _, _, x, r => by
    cases x
    obtain ⟨t, rfl⟩ := r
    exact ⟨_, ReadsW.int i t⟩
  | .str s, _, _, x, r => by
    cases x
    obtain ⟨t, rfl⟩ := r
    exact ⟨_, ReadsW.str s t⟩
  | .bytes b, _, _, x, r => by
    cases x
    obtain ⟨t, rfl⟩ := r
    exact ⟨_, ReadsW.bytes _ t⟩
  | .list ds, _, _, x, r => by
    cases x with
    | lst hs ha =>
      cases r
      obtain ⟨its, o, n, rv, ho, hc, hd⟩ := sqL_at hok KX hs
      obtain ⟨as, hr⟩ := Dw.readsAll hok KX ds _ its ha rv
      exact ⟨_, ReadsW.list ho hc hd hr⟩
  | .tuple ds, _, _, x, r => by
    cases x with
    | tup hs ha =>
      cases r
      obtain ⟨its, o, n, rv, ho, hc, hd⟩ := sqT_at hok KX hs
      obtain ⟨as, hr⟩ := Dw.readsAll hok KX ds _ its ha rv
      exact ⟨_, ReadsW.tuple ho hc hd hr⟩
  | .float _, _, _, x, _ => by cases x
  | .dict _, _, _, x, _ => by cases x
  | .bytearray _, _, _, x, _ => by cases x
  | .set _, _, _, x, _ => by cases x
  | .frozenset _, _, _, x, _ => by cases x
  | .obj _ _, _, _, x, _ => by cases x
theorem Dw.readsAll (hok : HOk P w H h) (KX : K.In h) : ∀ (ds : List WData) (vs : List V) (us : List Value), DwAll K H vs ds → Vals vs us → ∃ as, ReadsAllW R cl h us ds as
  | [], _, _, x, r => by
    cases x
    cases r
    exact ⟨_, ReadsAllW.nil⟩
  | d :: ds, _, _, x, r => by
    cases x with
    | cons h1 h2 =>
      cases r with
      | cons r1 r2 =>
        obtain ⟨as, q1⟩ := Dw.reads hok KX d _ _ h1 r1
        obtain ⟨bs, q2⟩ := Dw.readsAll hok KX ds _ _ h2 r2
        exact ⟨_, ReadsAllW.cons q1 q2⟩
end
end
mutual
def plW : WData → Bool
  | .none => true
  | .bool _ => true
  | .int _ => true
  | .str _ => true
  | .bytes _ => true
  | .list xs => plWs xs
  | .tuple xs => plWs xs
  | _ => false
def plWs : List WData → Bool
  | [] => true
  | x :: r => plW x && plWs r
end
theorem plWs_map {α : Type} {f : α → WData} (h : ∀ a, plW (f a) = true) : ∀ l : List α, plWs (l.map f) = true
  | [] => rfl
  | x :: r => by
    show (plW (f x) && plWs (r.map f)) = true
    rw [h x, plWs_map h r] <;> rfl
theorem pl_enc : ∀ (c : Codec) (a : c.denote), plW (c.enc a) = true
  | .unit, _ => rfl
  | .bool, _ => rfl
  | .int _ _, _ => rfl
  | .nat _ _, _ => rfl
  | .u8, _ => rfl
  | .bytes _ _, _ => rfl
  | .text _ _ _ _, _ => rfl
  | .list _ _ c, a => plWs_map (fun x => pl_enc c x) a
  | .pair c d, a => by
    show (plW (c.enc a.1) && (plW (d.enc a.2) && true)) = true
    rw [pl_enc c a.1, pl_enc d a.2] <;> rfl
  | .triple c d e, a => by
    show (plW (c.enc a.1) && (plW (d.enc a.2.1) && (plW (e.enc a.2.2) && true))) = true
    rw [pl_enc c a.1, pl_enc d a.2.1, pl_enc e a.2.2] <;> rfl
  | .option c, none => rfl
  | .option c, some x => pl_enc c x
theorem pl_encAll : ∀ (cs : List Codec) (a : Codec.denoteAll cs), plWs (Codec.encAll cs a) = true
  | [], _ => rfl
  | c :: cs, a => by
    show (plW (c.enc a.1) && plWs (Codec.encAll cs a.2)) = true
    rw [pl_enc c a.1, pl_encAll cs a.2] <;> rfl
theorem weight_mem : ∀ {xs : List WData} {d : WData}, d ∈ xs → d.weight ≤ WData.weightAll xs
  | [], d, h => absurd h (by simp)
  | x :: r, d, h => by
    show d.weight ≤ x.weight + 1 + WData.weightAll r
    rcases List.mem_cons.mp h with e | m
    · rw [e]
      omega
    · have z := weight_mem m
      omega
def toV : Value → V
  | .none => .non
  | .bool b => .bl b
  | .int i _ => .int i
  | .str x _ => .str x
  | .bytes b _ => .byt b
  | .ref a => .ref a
  | _ => .non
def OkU (A : List Addr) : Value → Prop
  | .none => True
  | .bool _ => True
  | .int _ _ => True
  | .str _ _ => True
  | .bytes _ _ => True
  | .ref a => a ∈ A
  | _ => False
theorem OkU.mono {A B : List Addr} (h : ∀ a ∈ A, a ∈ B) : ∀ {u : Value}, OkU A u → OkU B u := fun {u} x => by
  cases u with
  | ref a => exact h a x
  | none => trivial
  | bool b => trivial
  | int i t => trivial
  | str s t => trivial
  | bytes b t => trivial
  | _ => exact False.elim x
theorem relV_toV {A : List Addr} {u : Value} (x : OkU A u) : RelV (toV u) u := by
  cases u with
  | ref a => rfl
  | none => rfl
  | bool b => rfl
  | int i t => exact ⟨t, rfl⟩
  | str s t => exact ⟨t, rfl⟩
  | bytes b t => exact ⟨t, rfl⟩
  | _ => exact False.elim x
theorem vals_toV {A : List Addr} : ∀ {vs : List Value}, (∀ u ∈ vs, OkU A u) → Vals (vs.map toV) vs
  | [], _ => .nil
  | u :: r, h => .cons (relV_toV (h u (List.mem_cons_self ..))) (vals_toV fun x hx => h x (List.mem_cons_of_mem _ hx))
def ArgOb (h : Heap) (A : List Addr) (a : Addr) : Prop := ∃ vs : List Value, vs.length ≤ sizeLine ∧ (∀ u ∈ vs, OkU A u) ∧
  (h.get? a = some { cls := .type "list", data := .seq vs.toArray } ∨ h.get? a = some { cls := .type "tuple", data := .seq vs.toArray })
theorem ArgOb.mono {h : Heap} {A B : List Addr} {a : Addr} (k : ∀ a ∈ A, a ∈ B) (x : ArgOb h A a) : ArgOb h B a := by
  obtain ⟨vs, h1, h2, h3⟩ := x
  exact ⟨vs, h1, fun u hu => (h2 u hu).mono k, h3⟩
theorem wellAll_len {P : Params} {h : Heap} : ∀ {vs : List Value} {ds : List WData}, WellAll P h vs ds → vs.length = ds.length
  | _, _, .nil => rfl
  | _, _, .cons _ b => by
    show _ + 1 = _ + 1
    rw [wellAll_len b]
theorem well_list {P : Params} {h : Heap} {v : Value} {ds : List WData} (x : Well P h v (.list ds)) : ∃ (a : Addr) (vs : List Value), v = .ref a ∧ h.get? a = some { cls := .type "list", data := .seq vs.toArray } ∧ WellAll P h vs ds := by
  cases x with
  | list ho hall => exact ⟨_, _, rfl, ho, hall⟩
theorem well_tuple {P : Params} {h : Heap} {v : Value} {ds : List WData} (x : Well P h v (.tuple ds)) : ∃ (a : Addr) (vs : List Value), v = .ref a ∧ h.get? a = some { cls := .type "tuple", data := .seq vs.toArray } ∧ WellAll P h vs ds := by
  cases x with
  | tuple ho hall => exact ⟨_, _, rfl, ho, hall⟩
theorem well_cons {P : Params} {h : Heap} {us : List Value} {d : WData} {ds : List WData} (x : WellAll P h us (d :: ds)) : ∃ (v : Value) (vs : List Value), us = v :: vs ∧ Well P h v d ∧ WellAll P h vs ds := by
  cases x with
  | cons a b => exact ⟨_, _, rfl, a, b⟩
theorem line_of {n : Nat} (h : n ≤ 1048576) : n ≤ sizeLine := Nat.le_trans h (by decide)
section
variable {P : Params} {h : Heap}
mutual
theorem area_one : ∀ (d : WData) (v : Value), Well P h v d → plW d = true → d.weight ≤ 1048576 → ∃ A : List Addr, OkU A v ∧ ∀ a ∈ A, ArgOb h A a
  | .none, _, x, _, _ => by
    cases x
    exact ⟨[], trivial, fun a m => absurd m (by simp)⟩
  | .bool b, _, x, _, _ => by
    cases x
    exact ⟨[], trivial, fun a m => absurd m (by simp)⟩
  | .int i, _, x, _, _ => by
    cases x
    exact ⟨[], trivial, fun a m => absurd m (by simp)⟩
  | .str s, _, x, _, _ => by
    cases x
    exact ⟨[], trivial, fun a m => absurd m (by simp)⟩
  | .bytes b, _, x, _, _ => by
    cases x
    exact ⟨[], trivial, fun a m => absurd m (by simp)⟩
  | .list ds, _, x, p, z => by
    obtain ⟨a, vs, rfl, ho, hall⟩ := well_list x
    have z2 : WData.weightAll ds ≤ 1048576 := z
    obtain ⟨A, h1, h2⟩ := area_all ds _ hall p fun d hd => Nat.le_trans (weight_mem hd) z2
    have k : ∀ b ∈ A, b ∈ a :: A := fun b hb => List.mem_cons_of_mem _ hb
    refine ⟨a :: A, List.mem_cons_self .., fun b hb => ?_⟩
    rcases List.mem_cons.mp hb with e | m
    · rw [e]
      exact ⟨vs, line_of (by rw [wellAll_len hall]; exact Nat.le_trans (PySem.W.length_le_weightAllW ds) z2), fun u hu => (h1 u hu).mono k, .inl ho⟩
    · exact (h2 b m).mono k
  | .tuple ds, _, x, p, z => by
    obtain ⟨a, vs, rfl, ho, hall⟩ := well_tuple x
    have z2 : WData.weightAll ds ≤ 1048576 := z
    obtain ⟨A, h1, h2⟩ := area_all ds _ hall p fun d hd => Nat.le_trans (weight_mem hd) z2
    have k : ∀ b ∈ A, b ∈ a :: A := fun b hb => List.mem_cons_of_mem _ hb
    refine ⟨a :: A, List.mem_cons_self .., fun b hb => ?_⟩
    rcases List.mem_cons.mp hb with e | m
    · rw [e]
      exact ⟨vs, line_of (by rw [wellAll_len hall]; exact Nat.le_trans (PySem.W.length_le_weightAllW ds) z2), fun u hu => (h1 u hu).mono k, .inr ho⟩
    · exact (h2 b m).mono k
  | .float _, _, _, p, _ => Bool.noConfusion (show false = true from p)
  | .dict _, _, _, p, _ => Bool.noConfusion (show false = true from p)
  | .bytearray _, _, _, p, _ => Bool.noConfusion (show false = true from p)
  | .set _, _, _, p, _ => Bool.noConfusion (show false = true from p)
  | .frozenset _, _, _, p, _ => Bool.noConfusion (show false = true from p)
  | .obj _ _, _, _, p, _ => Bool.noConfusion (show false = true from p)
theorem area_all : ∀ (ds : List WData) (vs : List Value), WellAll P h vs ds → plWs ds = true → (∀ d ∈ ds, d.weight ≤ 1048576) → ∃ A : List Addr, (∀ u ∈ vs, OkU A u) ∧ ∀ a ∈ A, ArgOb h A a
  | [], _, x, _, _ => by
    cases x
    exact ⟨[], fun u m => absurd m (by simp), fun a m => absurd m (by simp)⟩
  | d :: ds, _, x, p, z => by
    obtain ⟨v, vs, rfl, x1, x2⟩ := well_cons x
    have q : plW d = true ∧ plWs ds = true := Bool.and_eq_true_iff.mp p
    obtain ⟨A, a1, a2⟩ := area_one d v x1 q.1 (z d (List.mem_cons_self ..))
    obtain ⟨B, b1, b2⟩ := area_all ds vs x2 q.2 fun e he => z e (List.mem_cons_of_mem _ he)
    have kA : ∀ b ∈ A, b ∈ A ++ B := fun b hb => List.mem_append.mpr (.inl hb)
    have kB : ∀ b ∈ B, b ∈ A ++ B := fun b hb => List.mem_append.mpr (.inr hb)
    refine ⟨A ++ B, fun u hu => ?_, fun b hb => ?_⟩
    · rcases List.mem_cons.mp hu with e | m
      · rw [e]
        exact a1.mono kA
      · exact (b1 u m).mono kB
    · rcases List.mem_append.mp hb with m | m
      · exact (a2 b m).mono kA
      · exact (b2 b m).mono kB
end
end
def hoOf (o : Obj) : Option HO := match o.data with
  | .seq vs _ => if (o.cls == Value.type "list") = true then some (.frz o (.lst (vs.toList.map toV))) else some (.frz o (.tup (vs.toList.map toV)))
  | _ => none
def argH (K : PySem.W.Frag) (h : Heap) (A : List Addr) : Hp := fun b => if b ∈ A then (if (K.lookup b).isNone = true then (h.get? b).bind hoOf else none) else none
def OnlyF (H : Hp) : Prop := ∀ b, H b = none ∨ ∃ o u, H b = some (.frz o u)
theorem hoOf_lst (vs : List Value) : hoOf { cls := .type "list", data := .seq vs.toArray } = some (.frz { cls := .type "list", data := .seq vs.toArray } (.lst (vs.map toV))) := by
  show (if (Value.type "list" == Value.type "list") = true then some (HO.frz { cls := .type "list", data := .seq vs.toArray } (.lst (vs.toArray.toList.map toV))) else some (HO.frz { cls := .type "list", data := .seq vs.toArray } (.tup (vs.toArray.toList.map toV)))) = _
  rw [if_pos (beq_self_eq_true _)]
theorem hoOf_tup (vs : List Value) : hoOf { cls := .type "tuple", data := .seq vs.toArray } = some (.frz { cls := .type "tuple", data := .seq vs.toArray } (.tup (vs.map toV))) := by
  show (if (Value.type "tuple" == Value.type "list") = true then some (HO.frz { cls := .type "tuple", data := .seq vs.toArray } (.lst (vs.toArray.toList.map toV))) else some (HO.frz { cls := .type "tuple", data := .seq vs.toArray } (.tup (vs.toArray.toList.map toV)))) = _
  rw [if_neg (by decide)]
section
variable {P : Program} {w : World} {K : PySem.W.Frag} {h : Heap} {A : List Addr}
theorem argH_at {b : Addr} {o : Obj} (hb : b ∈ A) (hk : K.lookup b = none) (e : h.get? b = some o) : argH K h A b = hoOf o := by
  unfold argH
  rw [if_pos hb, hk, if_pos (show (none : Option Obj).isNone = true from rfl), e] <;> rfl
theorem of_argH {b : Addr} {u : HO} (q : argH K h A b = some u) : b ∈ A ∧ K.lookup b = none := by
  unfold argH at q
  by_cases hb : b ∈ A
  · rw [if_pos hb] at q
    cases hk : K.lookup b with
    | none => exact ⟨hb, rfl⟩
    | some o =>
      rw [hk, if_neg (by simp)] at q
      cases q
  · rw [if_neg hb] at q
    cases q
theorem argH_is (ar : ∀ a ∈ A, ArgOb h A a) {b : Addr} {u : HO} (q : argH K h A b = some u) : K.lookup b = none ∧ ∃ vs : List Value, vs.length ≤ sizeLine ∧ (∀ u ∈ vs, OkU A u) ∧
    ((h.get? b = some { cls := .type "list", data := .seq vs.toArray } ∧ u = .frz { cls := .type "list", data := .seq vs.toArray } (.lst (vs.map toV))) ∨
     (h.get? b = some { cls := .type "tuple", data := .seq vs.toArray } ∧ u = .frz { cls := .type "tuple", data := .seq vs.toArray } (.tup (vs.map toV)))) := by
  obtain ⟨hb, hk⟩ := of_argH q
  obtain ⟨vs, h1, h2, h3⟩ := ar b hb
  refine ⟨hk, vs, h1, h2, ?_⟩
  rcases h3 with e | e
  · rw [argH_at hb hk e, hoOf_lst] at q
    exact .inl ⟨e, (Option.some.inj q).symm⟩
  · rw [argH_at hb hk e, hoOf_tup] at q
    exact .inr ⟨e, (Option.some.inj q).symm⟩
theorem argH_only (ar : ∀ a ∈ A, ArgOb h A a) : OnlyF (argH K h A) := fun b => by
  cases q : argH K h A b with
  | none => exact .inl rfl
  | some u =>
    obtain ⟨_, vs, _, _, ⟨_, e⟩ | ⟨_, e⟩⟩ := argH_is ar q
    · exact .inr ⟨_, _, by rw [e]⟩
    · exact .inr ⟨_, _, by rw [e]⟩
theorem argH_ok (ar : ∀ a ∈ A, ArgOb h A a) : HOk P w (argH K h A) h := fun b u q => by
  obtain ⟨_, vs, h1, h2, ⟨e, rfl⟩ | ⟨e, rfl⟩⟩ := argH_is ar q
  · exact ⟨e, by rw [List.length_map]; exact h1, vs, _, vals_toV h2, e⟩
  · exact ⟨e, by rw [List.length_map]; exact h1, vs, vals_toV h2, _, e, rfl, _, rfl⟩
theorem seq_inj {c c' : Value} {vs us : List Value} (e : (some { cls := c, data := .seq vs.toArray } : Option Obj) = some { cls := c', data := .seq us.toArray }) : c = c' ∧ vs = us := by
  have e1 := Option.some.inj e
  have e2 : c = c' := congrArg Obj.cls e1
  have e3 : Data.seq vs.toArray = Data.seq us.toArray := congrArg Obj.data e1
  injection e3 with e4
  refine ⟨e2, ?_⟩
  have e5 := congrArg Array.toList e4
  simpa using e5
theorem argL (KX : K.In h) (ar : ∀ a ∈ A, ArgOb h A a) {a : Addr} {vs : List Value} (ha : a ∈ A) (e : h.get? a = some { cls := .type "list", data := .seq vs.toArray }) : (∀ u ∈ vs, OkU A u) ∧ SqL K (argH K h A) a (vs.map toV) := by
  obtain ⟨us, h1, h2, h3⟩ := ar a ha
  have hu : us = vs := by
    rcases h3 with q | q
    · rw [e] at q
      exact (seq_inj q).2.symm
    · rw [e] at q
      exact absurd (Value.type.inj (seq_inj q).1) (by decide)
  subst hu
  refine ⟨h2, ?_⟩
  cases hk : K.lookup a with
  | none => exact .inl (.inr ⟨_, by rw [argH_at ha hk e, hoOf_lst]⟩)
  | some o =>
    have e2 := KX a o hk
    rw [e] at e2
    obtain rfl := Option.some.inj e2
    exact .inr ⟨_, us.toArray, _, hk, rfl, rfl, rfl, by rw [List.size_toArray]; exact h1, by simpa using vals_toV h2⟩
theorem argT (KX : K.In h) (ar : ∀ a ∈ A, ArgOb h A a) {a : Addr} {vs : List Value} (ha : a ∈ A) (e : h.get? a = some { cls := .type "tuple", data := .seq vs.toArray }) : (∀ u ∈ vs, OkU A u) ∧ SqT K (argH K h A) a (vs.map toV) := by
  obtain ⟨us, h1, h2, h3⟩ := ar a ha
  have hu : us = vs := by
    rcases h3 with q | q
    · rw [e] at q
      exact absurd (Value.type.inj (seq_inj q).1) (by decide)
    · rw [e] at q
      exact (seq_inj q).2.symm
  subst hu
  refine ⟨h2, ?_⟩
  cases hk : K.lookup a with
  | none => exact .inl (.inr ⟨_, by rw [argH_at ha hk e, hoOf_tup]⟩)
  | some o =>
    have e2 := KX a o hk
    rw [e] at e2
    obtain rfl := Option.some.inj e2
    exact .inr ⟨_, us.toArray, _, hk, rfl, rfl, by rw [List.size_toArray]; exact h1, by simpa using vals_toV h2⟩
mutual
theorem dw_one {Pm : Params} (KX : K.In h) (ar : ∀ a ∈ A, ArgOb h A a) : ∀ (d : WData) (v : Value), Well Pm h v d → plW d = true → OkU A v → Dw K (argH K h A) (toV v) d
  | .none, _, x, _, _ => by
    cases x
    exact .non
  | .bool b, _, x, _, _ => by
    cases x
    exact .bl b
  | .int i, _, x, _, _ => by
    cases x
    exact .int i
  | .str s, _, x, _, _ => by
    cases x
    exact .str s
  | .bytes b, _, x, _, _ => by
    cases x
    have z := Dw.byt (K := K) (H := argH K h A) b.toArray
    exact z
  | .list ds, _, x, p, hu => by
    obtain ⟨a, vs, rfl, ho, hall⟩ := well_list x
    obtain ⟨h2, hs⟩ := argL KX ar hu ho
    exact .lst hs (dw_all KX ar ds _ hall p h2)
  | .tuple ds, _, x, p, hu => by
    obtain ⟨a, vs, rfl, ho, hall⟩ := well_tuple x
    obtain ⟨h2, hs⟩ := argT KX ar hu ho
    exact .tup hs (dw_all KX ar ds _ hall p h2)
  | .float _, _, _, p, _ => Bool.noConfusion (show false = true from p)
  | .dict _, _, _, p, _ => Bool.noConfusion (show false = true from p)
  | .bytearray _, _, _, p, _ => Bool.noConfusion (show false = true from p)
  | .set _, _, _, p, _ => Bool.noConfusion (show false = true from p)
  | .frozenset _, _, _, p, _ => Bool.noConfusion (show false = true from p)
  | .obj _ _, _, _, p, _ => Bool.noConfusion (show false = true from p)
theorem dw_all {Pm : Params} (KX : K.In h) (ar : ∀ a ∈ A, ArgOb h A a) : ∀ (ds : List WData) (vs : List Value), WellAll Pm h vs ds → plWs ds = true → (∀ u ∈ vs, OkU A u) → DwAll K (argH K h A) (vs.map toV) ds
  | [], _, x, _, _ => by
    cases x
    exact .nil
  | d :: ds, _, x, p, hu => by
    obtain ⟨v, vs, rfl, x1, x2⟩ := well_cons x
    have q : plW d = true ∧ plWs ds = true := Bool.and_eq_true_iff.mp p
    exact .cons (dw_one KX ar d v x1 q.1 (hu _ (List.mem_cons_self ..))) (dw_all KX ar ds vs x2 q.2 fun u m => hu u (List.mem_cons_of_mem _ m))
end
end
theorem spec_call {P : Program} {w : World} {K : PySem.W.Frag} {mg mb : Str → Option Value} {CX : CXT} {k : Nat} {fa : Addr} {fd : FuncData} {ps : List Str} {sp : Sp} {s₁ : Shared} {vals : List Value} {ds : List WData} {R : PySem.W.WRecords} {cl : Str → Option Addr} {d0 : WData}
    (KX : K.In s₁.heap) (hns : s₁.heap.Ns mainGlobals mg) (hb : s₁.heap.Ns builtinsNs mb) (hbb : ∀ x : Str, x ≠ "__name__" → mb x = bootBuiltins x) (hlim : s₁.heap.NoLimit) (hg : s₁.gens = #[])
    (hwl : WellAll w.params s₁.heap vals ds) (hpl : plWs ds = true) (hwt : ∀ d ∈ ds, d.weight ≤ 1048576) (hr : Room k callerA)
    (F : ∀ base : Heap, K.In base → base.Ns mainGlobals mg → FnOk P w K mg base CX k fa fd ps sp) (hbind : ∀ (s : Shared) (us : List Value), us.length = ps.length → BindsTo s fd ⟨us, []⟩ (ps.zip us)) (hlen : ds.length = ps.length)
    (hsp : ∀ (H : Hp) (xs : List V), OnlyF H → DwAll K H xs ds → sp xs H (fun v H' => Dw K H' v d0) fun _ _ _ => False)
    (hCX : ∀ H e s', CX [] H s₁ (fun _ _ _ => False) e s' → False) :
    codeAny (model P w) callerA (.call (.ref fa) ⟨vals, []⟩) (fun r s' => ∃ u as, r = .ok (.ret u) ∧ ReadsW R cl s'.heap u d0 as ∧ OldK s₁.heap s'.heap ∧ s'.os = s₁.os ∧ AllBare s'.gens) s₁ := by
  obtain ⟨A, ho, ar⟩ := area_all ds vals hwl hpl hwt
  have hO : OnlyF (argH K s₁.heap A) := argH_only ar
  have hok : HOk P w (argH K s₁.heap A) s₁.heap := argH_ok ar
  have hS := dw_all KX ar ds vals hwl hpl ho
  have hV := vals_toV ho
  have hK : ∀ b u, argH K s₁.heap A b = some u → K.lookup b = none := fun b u q => (argH_is ar q).1
  have noA : ∀ {b : Addr} {o : Obj} {es : Array DictEntry} {ep : Nat}, s₁.heap.get? b = some o → o.data = .dict es ep → argH K s₁.heap A b = none := fun {b o es ep} e d => by
    cases q : argH K s₁.heap A b with
    | none => rfl
    | some u =>
      obtain ⟨_, vs, _, _, ⟨e2, _⟩ | ⟨e2, _⟩⟩ := argH_is ar q
      · rw [e2] at e
        cases e
        have d' : Data.seq vs.toArray _ = Data.dict es ep := d
        cases d'
      · rw [e2] at e
        cases e
        have d' : Data.seq vs.toArray _ = Data.dict es ep := d
        cases d'
  generalize argH K s₁.heap A = H at hO hok hS hK noA
  have base_of : ∀ {b : Addr} {o : Obj}, s₁.heap.get? b = some o → H b = none → (hidT s₁.heap H).get? b = some o := fun e n => hidT_get e n
  have nsK : ∀ {b : Addr} {m : Str → Option Value}, s₁.heap.Ns b m → (hidT s₁.heap H).Ns b m := fun {b m} ⟨o, es, ep, e, d, r⟩ => ⟨o, es, ep, base_of e (noA e d), d, r⟩
  have nK : ∀ b o, K.lookup b = some o → H b = none := fun b o e => by
    cases q : H b with
    | none => rfl
    | some u =>
      rw [hK b u q] at e
      cases e
  have hKb : K.In (hidT s₁.heap H) := fun b o e => base_of (KX b o e) (nK b o e)
  have hM : Mod K mg (hidT s₁.heap H) := ⟨hKb, nsK hns, ⟨mb, nsK hb, hbb⟩, let ⟨mc, h1, h2⟩ := hlim; ⟨mc, nsK h1, h2⟩⟩
  have e0 : Env0 P w K mg (hidT s₁.heap H) callerA [] s₁ H := ⟨rfl, hM, fun b o e => of_hidT e, Nat.le_of_eq (hidT_size _ _), trivial, fun b hb => absurd (show b ∈ ([] : List Addr) from hb) (by simp), hok, .of_eq hg⟩
  have hl : vals.length = ps.length := by rw [wellAll_len hwl]; exact hlen
  refine codeAny_mono ((F _ hKb (nsK hns)).run callerA [] s₁ H ⟨vals, []⟩ vals (vals.map toV) _ _ hr e0 (hbind s₁ vals hl) hV (hsp H _ hO hS)) fun r s' x => ?_
  cases r with
  | error e => exact (hCX H e s' x).elim
  | ok fl =>
    cases fl with
    | next => exact False.elim x
    | brk => exact False.elim x
    | cont => exact False.elim x
    | ret u =>
      obtain ⟨v, H', os, bare, un, hok', r', q⟩ := x
      have kept : ∀ b o, s₁.heap.get? b = some o → s'.heap.get? b = some o := fun b o e => by
        cases q2 : H b with
        | none => exact un.keep b o e q2 (by intro z; exact absurd (show b ∈ ([] : List Addr) from z) (by simp)) (by simp)
        | some u2 =>
          rcases hO b with z | ⟨ob, u3, z⟩
          · rw [q2] at z
            cases z
          · have z2 := un.frzs b ob _ z
            obtain ⟨e1, _⟩ := hok b _ z
            obtain ⟨e2, _⟩ := hok' b _ z2
            rw [e] at e1
            cases e1
            exact e2
      have KX' : K.In s'.heap := fun b o e => kept b o (KX b o e)
      obtain ⟨as, hrd⟩ := Dw.reads (R := R) (cl := cl) hok' KX' d0 v u q r'
      exact ⟨u, as, rfl, hrd, OldK.of_keep kept, os, bare⟩
theorem layable_weight {ds : List WData} (h : WData.layableAll ds = true) : ∀ d ∈ ds, d.weight ≤ 1048576 := fun d hd =>
  (PySem.W.layableW_iff.mp (List.all_eq_true.mp h d hd)).2.2
theorem encAll_len : ∀ (cs : List Codec) (a : Codec.denoteAll cs), (Codec.encAll cs a).length = cs.length
  | [], _ => rfl
  | c :: cs, a => by
    show (Codec.encAll cs a.2).length + 1 = cs.length + 1
    rw [encAll_len cs a.2]
theorem walk_spec {r : OpenSpec} {k : Nat} {q : Program} {loose : List Str} {XP : (Str → Option Value) → Heap → Prop} {YP : World → Heap → Prop} {d : DefRec} {K : Params → PySem.W.Frag} {CX : World → CXT} {ps : List Str} {sp : World → Sp}
    (hwell : r.wellSaid = true) (hdf : d.params.defaults = []) (hlen : r.args.length = ps.length) (hr : Room k callerA)
    (hY : ∀ (w : World) (h : Heap), YP w h → (K w.params).In h)
    (F : ∀ (w : World) (mg : Str → Option Value) (fa : Addr) (h : Heap), YP w h → (K w.params).In h → h.Ns mainGlobals mg → mg d.name = some (.ref fa) →
      ∃ fd : FuncData, (∀ (s : Shared) (us : List Value), us.length = ps.length → BindsTo s fd ⟨us, []⟩ (ps.zip us)) ∧
        ∀ base : Heap, (K w.params).In base → base.Ns mainGlobals mg → FnOk r.prog w (K w.params) mg base (CX w) k fa fd ps (sp w))
    (hsp : ∀ (w : World) (H : Hp) (xs : List V) (a : Codec.denoteAll r.args), OnlyF H → Codec.withinAll r.args a = true → Codec.app r.args r.asked a = true → DwAll (K w.params) H xs (Codec.encAll r.args a) →
      sp w xs H (fun v H' => Dw (K w.params) H' v (r.ret.enc (Codec.app r.args r.f a))) fun _ _ _ => False)
    (hCX : ∀ (w : World) (H : Hp) (s : Shared) (e : Value) (s' : Shared), CX w [] H s (fun _ _ _ => False) e s' → False) :
    PySem.W.WalkOS q loose XP YP r d [] (fun f vs => PySem.call f vs) := by
  intro w s_0 s₁ mg mb G Y fa o pm cd doc dV kV ho hd hcd hD hmg hg args vals as hpre hlay hrd hwl hlo
  obtain ⟨a, e1, e2⟩ := PySem.W.os_pre_some hpre
  obtain ⟨e3, hwi⟩ := Codec.encAll_of_decAll r.args args a e1
  subst e3
  have KX := hY w _ Y
  obtain ⟨fd, hb, hF⟩ := F w mg fa _ Y KX G.T.g hmg
  refine PySem.W.enter_call (codeAny_mono (spec_call (R := []) (cl := classAt s_0.heap) (d0 := r.ret.enc (Codec.app r.args r.f a)) KX G.T.g G.T.b G.T.builtins G.T.nolimit hg hwl (pl_encAll _ _) (layable_weight hlay) hr hF hb (by rw [encAll_len]; exact hlen)
    (fun H xs hO hS => hsp w H xs a hO hwi e2 hS) fun H e s' => hCX w H s₁ e s') fun r' s' hq => ?_)
  obtain ⟨u, as', rfl, h1, h2, h3, h4⟩ := hq
  exact ⟨.inl ⟨u, _, as', rfl, fun _ => rfl, h1, (OpenSpec.post_iff hwell hwi _ _).mpr rfl, fun z => Bool.noConfusion (show false = true from z)⟩, h2, h3, h4⟩
theorem walk_specK {r : OpenSpec} {k : Nat} {q : Program} {loose : List Str} {XP : (Str → Option Value) → Heap → Prop} {YP : World → Heap → Prop} {d : DefRec} {K : Params → PySem.W.Frag} {CX : CXT} {ps : List Str} {sp : PySem.W.Frag → Sp}
    (hwell : r.wellSaid = true) (hdf : d.params.defaults = []) (hlen : r.args.length = ps.length) (hr : Room k callerA)
    (hY : ∀ (w : World) (h : Heap), YP w h → (K w.params).In h)
    (F : ∀ (w : World) (mg : Str → Option Value) (fa : Addr) (h : Heap), YP w h → (K w.params).In h → h.Ns mainGlobals mg → mg d.name = some (.ref fa) →
      ∃ fd : FuncData, (∀ (s : Shared) (us : List Value), us.length = ps.length → BindsTo s fd ⟨us, []⟩ (ps.zip us)) ∧
        ∀ base : Heap, (K w.params).In base → base.Ns mainGlobals mg → FnOk r.prog w (K w.params) mg base CX k fa fd ps (sp (K w.params)))
    (hsp : ∀ (K : PySem.W.Frag) (H : Hp) (xs : List V) (a : Codec.denoteAll r.args), OnlyF H → Codec.withinAll r.args a = true → Codec.app r.args r.asked a = true → DwAll K H xs (Codec.encAll r.args a) →
      sp K xs H (fun v H' => Dw K H' v (r.ret.enc (Codec.app r.args r.f a))) fun _ _ _ => False)
    (hCX : ∀ (H : Hp) (s : Shared) (e : Value) (s' : Shared), CX [] H s (fun _ _ _ => False) e s' → False) :
    PySem.W.WalkOS q loose XP YP r d [] (fun f vs => PySem.call f vs) :=
  walk_spec (K := K) (CX := fun _ => CX) (sp := fun w => sp (K w.params)) hwell hdf hlen hr hY F (fun w H xs a h1 h2 h3 h4 => hsp (K w.params) H xs a h1 h2 h3 h4) fun _ H s e s' => hCX H s e s'
end L2
end
end
section
set_option linter.all false
set_option Elab.async false
set_option linter.all false
set_option maxRecDepth 100000
set_option maxHeartbeats 2000000
namespace L3
open PySem PySem.Spec PyProof.Rows L2
structure Def (P : Program) (w : World) (K : PySem.W.Frag) (mg : Str → Option Value) (base : Heap) (x : Str) (k : Nat) (ps : List Str) (sp : Sp) : Prop where
  ex : ∃ f fd, FnOk P w K mg base CX0 k f fd ps sp ∧ mg x = some (.ref f) ∧ PySem.W.keepIn K (.ref f) = true ∧ Binds K fd ps []
structure New (P : Program) (w : World) (K : PySem.W.Frag) (mg : Str → Option Value) (base : Heap) (x : Str) (C : Addr) (k : Nat) (ps : List Str) (sp : Sp) : Prop where
  ex : ∃ f fd, Mk K C f ∧ FnOk P w K mg base CX0 k f fd ps sp ∧ mg x = some (.ref C) ∧ Binds K fd ps []
section
variable {X : Cx} {k : Nat} {x : Str} {ps : List Str} {sp : Sp} {e : Expr} {es : List Expr} {t : TA} {p pos : Pos} {C : Addr}
theorem pe_def (F : Def X.prog X.w X.K X.mg X.base x k ps sp) (hr : Room k X.A) (ha : PA X (e :: es) t) (hg : Gl X x := by rfl) (hdb : (x == ("__debug__" : Str)) = false := by decide)
    (he : starEach (e :: es) X.env = (false, eval e X.env) :: starEach es X.env := by rfl) (hpl : (backTo pos (starEach es X.env)).any (·.1) = false := by rfl) : PE X (.Call (.Name x p) (e :: es) [] pos) (tCall sp [] E0 t) := by
  obtain ⟨f, fd, G, hm, hk, hb⟩ := F.ex
  exact pe_call G hr hg hm hk hb .nil pass0 ha hdb he hpl
theorem pe_new (F : New X.prog X.w X.K X.mg X.base x C k ps sp) (hr : Room (k + 1) X.A) (ha : PA X (e :: es) t) (hg : Gl X x := by rfl) (hdb : (x == ("__debug__" : Str)) = false := by decide)
    (he : starEach (e :: es) X.env = (false, eval e X.env) :: starEach es X.env := by rfl) (hpl : (backTo pos (starEach es X.env)).any (·.1) = false := by rfl) : PE X (.Call (.Name x p) (e :: es) [] pos) (tMake C sp [] E0 t) := by
  obtain ⟨f, fd, M, G, hm, hb⟩ := F.ex
  exact pe_make M G hr hg hm hb .nil pass0 ha hdb he hpl
theorem pe_new0 (F : New X.prog X.w X.K X.mg X.base x C k ps sp) (hr : Room (k + 1) X.A) (hg : Gl X x := by rfl) (hdb : (x == ("__debug__" : Str)) = false := by decide) : PE X (.Call (.Name x p) [] [] pos) (tMake C sp [] E0 tNil) := by
  obtain ⟨f, fd, M, G, hm, hb⟩ := F.ex
  exact pe_make0 M G hr hg hm hb .nil pass0 hdb
theorem pe_num {n : Int} (h : ∃ t, X.mg x = some (.int n t)) (hg : Gl X x := by rfl) (hd : (x == ("__debug__" : Str)) = false := by decide) : PE X (.Name x pos) (tC (.int n)) := by
  obtain ⟨t, h⟩ := h
  exact pe_glob hg h ⟨t, rfl⟩ hd
end
theorem pe_f {X : Cx} {e : Expr} {ta : TE} {f : Str} {pos : Pos} {K : PySem.W.Frag} (he : PE X e ta) (hb : attributeBase e f X.env (eval e X.env) = eval e X.env) (hK : X.K = K := by rfl) : PE X (.Attribute e f pos) (tFld K ta f) := by
  subst hK
  exact pe_fld he hb
def Keep (H H' : Hp) : Prop := ∀ b o, H b = some o → (∀ xs, o ≠ HO.lst xs) → H' b = some o
theorem _root_.L2.Same.keep {H H' : Hp} (s : Same H H') : Keep H H' := fun b o e _ => s b o e
theorem Keep.trans {H H1 H2 : Hp} (a : Keep H H1) (b : Keep H1 H2) : Keep H H2 := fun c o e n => b c o (a c o e n) n
theorem Keep.lst {H : Hp} {D : Addr} {xs ys : List V} (h : H D = some (.lst xs)) : Keep H (upd H D (.lst ys)) := fun b o e n => by
  rw [upd_ne (ne_of e h (fun q => n xs q))]
  exact e
theorem _root_.L2.Same.new {H : Hp} {D : Addr} {o : HO} (h : H D = none) : Same H (upd H D o) := fun b u e => by
  rw [upd_ne (ne_of_none e h)]
  exact e
theorem _root_.L2.Same.lst {H1 H : Hp} {D : Addr} {o : HO} (s : Same H1 H) (h : H1 D = none) : Same H1 (upd H D o) := fun b u e => by
  rw [upd_ne (ne_of_none e h)]
  exact s b u e
theorem wipe1 (σ : L2.St) (i : Nat) (x : V) : wipe ((wipe σ [i]).set i (some x)) [i] = wipe σ [i] := by
  show (((σ.set i none).set i (some x)).set i none) = σ.set i none
  rw [List.set_set, List.set_set]
theorem wset (σ : L2.St) (i : Nat) (x : V) : (wipe σ [i]).set i (some x) = σ.set i (some x) := by
  show ((σ.set i none).set i (some x)) = σ.set i (some x)
  rw [List.set_set]
theorem paired_snoc {α β : Type} {R : α → β → Prop} : ∀ {xs : List α} {ys : List β} {x : α} {y : β}, Paired R xs ys → R x y → Paired R (xs ++ [x]) (ys ++ [y])
  | _, _, _, _, .nil, r => .cons r .nil
  | _, _, _, _, .cons q t, r => .cons q (paired_snoc t r)
theorem take_succ_filter {α : Type} {p : α → Bool} {zs : List α} {i : Nat} {z : α} (h : zs[i]? = some z) : (zs.take (i + 1)).filter p = (zs.take i).filter p ++ (if p z = true then [z] else []) := by
  rw [List.take_succ, h, List.filter_append]
  congr 1
  show List.filter p [z] = _
  rw [List.filter_cons, List.filter_nil]
theorem lc_mk {α : Type} {K : PySem.W.Frag} {a : Addr} (v : α → V) {zs : List α} {i : Nat} {tt : TT} {te : TE} {σ : L2.St} {H1 : Hp} {D : Addr} {Qd : Hp → Prop} (p : α → Bool) (R : α → V → Hp → Prop)
    (hD : H1 D = none) (hxs : SqL K H1 a (zs.map v)) (hlen : zs.length < sizeLine) (hR : ∀ z y H H', Keep H H' → R z y H → R z y H')
    (hp : ∀ z ∈ zs, ∀ H', Same H1 H' → ∀ Q : Bool → Hp → Prop, Q (p z) H' → tt (σ.set i (some (v z))) H' Q)
    (he : ∀ z ∈ zs, p z = true → ∀ H', Same H1 H' → ∀ Q : VK, (∀ y H4, Same H' H4 → R z y H4 → Q y H4) → te (σ.set i (some (v z))) H' Q)
    (hd : ∀ H' ys, Same H1 H' → H' D = some (.lst ys) → Paired (fun z y => R z y H') (zs.filter p) ys → Qd H') :
    ∃ W : Nat → Nat → Hp → Prop, (∃ m, W 0 m (upd H1 D (.lst []))) ∧ ∀ j m H, W j m H →
      ((Itl K a).stop j H ∧ Qd H) ∨ ((Itl K a).go j H ∧ ∃ Nx : Hp → Prop, (∀ H', Nx H' → ∃ m', m' < m ∧ W (j + 1) m' H') ∧ ∀ x H', (Itl K a).yld j H x H' → gName i x (wipe σ [i]) H' fun σ2 H2 => wipe σ2 [i] = wipe σ [i] ∧ tt σ2 H2 fun b H3 =>
        if b = true then te σ2 H3 fun y H4 => ∃ acc, H4 D = some (.lst acc) ∧ acc.length < sizeLine ∧ Nx (upd H4 D (.lst (acc ++ [y]))) else Nx H3) := by
  refine lc_list (K := K) (a := a) (xs := zs.map v) (fun j H => ∃ acc, Same H1 H ∧ H D = some (.lst acc) ∧ Paired (fun z y => R z y H) ((zs.take j).filter p) acc) ⟨[], Same.new hD, upd_same, .nil⟩
    (fun j H _ ⟨_, s, _, _⟩ => s.seq hxs) ?_ ?_
  · rintro j x H hx ⟨acc, s, hDH, pr⟩
    rw [List.getElem?_map] at hx
    cases hz : zs[j]? with
    | none =>
      rw [hz] at hx
      cases hx
    | some z =>
      rw [hz] at hx
      have ex : v z = x := Option.some.inj hx
      subst ex
      have mz : z ∈ zs := List.mem_of_getElem? hz
      refine ⟨wipe1 σ i (v z), ?_⟩
      show tt ((wipe σ [i]).set i (some (v z))) H _
      rw [wset]
      refine hp z mz H s _ ?_
      have et := take_succ_filter (p := p) hz
      refine ite2 (fun h => ?_) fun h => ?_
      · refine he z mz h H s _ fun y H4 s4 r => ?_
        have hlt : acc.length < sizeLine := by
          have h1 := Paired.length pr
          have h2 := List.length_filter_le p (zs.take j)
          have h3 := List.length_take_le' j zs
          omega
        refine ⟨acc, s4 _ _ hDH, hlt, acc ++ [y], (s.trans s4).lst hD, upd_same, ?_⟩
        have kp : Keep H (upd H4 D (.lst (acc ++ [y]))) := (Same.keep s4).trans (Keep.lst (s4 _ _ hDH))
        rw [et, if_pos h]
        exact paired_snoc (Paired.mapP pr fun _ _ q => hR _ _ _ _ kp q) (hR _ _ _ _ (Keep.lst (s4 _ _ hDH)) r)
      · refine ⟨acc, s, hDH, ?_⟩
        rw [et, if_neg h, List.append_nil]
        exact pr
  · rintro H ⟨acc, s, hDH, pr⟩
    rw [List.length_map, List.take_length] at pr
    exact hd H acc s hDH pr
theorem paired_map {α : Type} {f : α → V} : ∀ {zs : List α} {ys : List V}, Paired (fun z y => y = f z) zs ys → ys = zs.map f
  | _, _, .nil => rfl
  | _, _, .cons r t => by rw [List.map_cons, r, paired_map t]
theorem lc_pure {α : Type} {K : PySem.W.Frag} {a : Addr} (v : α → V) {zs : List α} {i : Nat} {tt : TT} {te : TE} {σ : L2.St} {H1 : Hp} {D : Addr} {Qd : Hp → Prop} (p : α → Bool) (f : α → V)
    (hD : H1 D = none) (hxs : SqL K H1 a (zs.map v)) (hlen : zs.length < sizeLine)
    (hp : ∀ z ∈ zs, ∀ H', Same H1 H' → ∀ Q : Bool → Hp → Prop, Q (p z) H' → tt (σ.set i (some (v z))) H' Q)
    (he : ∀ z ∈ zs, p z = true → ∀ H', Same H1 H' → ∀ Q : VK, (∀ H4, Same H' H4 → Q (f z) H4) → te (σ.set i (some (v z))) H' Q)
    (hd : ∀ H', Same H1 H' → H' D = some (.lst ((zs.filter p).map f)) → Qd H') :
    ∃ W : Nat → Nat → Hp → Prop, (∃ m, W 0 m (upd H1 D (.lst []))) ∧ ∀ j m H, W j m H →
      ((Itl K a).stop j H ∧ Qd H) ∨ ((Itl K a).go j H ∧ ∃ Nx : Hp → Prop, (∀ H', Nx H' → ∃ m', m' < m ∧ W (j + 1) m' H') ∧ ∀ x H', (Itl K a).yld j H x H' → gName i x (wipe σ [i]) H' fun σ2 H2 => wipe σ2 [i] = wipe σ [i] ∧ tt σ2 H2 fun b H3 =>
        if b = true then te σ2 H3 fun y H4 => ∃ acc, H4 D = some (.lst acc) ∧ acc.length < sizeLine ∧ Nx (upd H4 D (.lst (acc ++ [y]))) else Nx H3) :=
  lc_mk v p (fun z y _ => y = f z) hD hxs hlen (fun _ _ _ _ _ q => q) hp (fun z mz pz H' s Q k => he z mz pz H' s Q fun H4 s4 => k _ H4 s4 rfl)
    fun H' ys s h pr => hd H' s (by rw [h, paired_map pr])
theorem filt_true {α : Type} (zs : List α) : zs.filter (fun _ => true) = zs := List.filter_eq_self.mpr fun _ _ => rfl
theorem yes_ok {σ : L2.St} {H' : Hp} {Q : Bool → Hp → Prop} (q : Q true H') : tYes σ H' Q := q
end L3
end
section
set_option linter.all false
set_option Elab.async false
set_option linter.all false
set_option maxRecDepth 100000
set_option maxHeartbeats 2000000
namespace L3
open PySem PySem.Spec PyProof.Rows L2
section
variable {X : Cx}
def rUpd : V → List V → Hp → VK → Prop := fun x vs H Q => ∃ (d e : Addr) (kvs more : List (Key × V)), x = .ref d ∧ vs = [.ref e] ∧ H d = some (.dK kvs) ∧ H e = some (.dK more) ∧ d ≠ e ∧ kvs.length + more.length ≤ sizeLine ∧
  Q .non (upd H d (.dK (mergeK kvs more)))
theorem mt_update : MtR X "dict.update" rUpd := by
  intro pins s σ H x vs v us Q I rx rv h
  obtain ⟨d, e, kvs, more, rfl, rfl, hd, he, hne, hz, q⟩ := h
  cases rx
  obtain ⟨u, rfl, ru⟩ := rv.one
  cases ru
  obtain ⟨z1, g1, vs1, rel1, dd1⟩ := dk_of I.hok hd
  obtain ⟨z2, g2, vs2, rel2, dd2⟩ := dk_of I.hok he
  refine call_meetsIn PySem.F.slot_dict_update dd1.typeIs PySem.F.entry_dict_update (PySem.F.args_dict_update_2 _ _) (meets_dict_update (mixKind X.prog X.w) d e hne g2)
    ⟨vs1, vs2, dd1, dd2, (by rw [← Paired.length rel1, ← Paired.length rel2]; exact hz), fun h' m1 m2 sb => ?_⟩
  have hl : (mergeK kvs more).length ≤ sizeLine := Nat.le_trans (length_mergeK more kvs) hz
  have I' : Inv X pins σ (upd H d (.dK (mergeK kvs more))) { s with heap := h' } := d_write (t' := s.toks) I (by rw [hd]; trivial) sb (let ⟨o, _, _, e, _⟩ := m1; ⟨o, e⟩) (dk_new hl g1 (KV.merge rel2 rel1) m1)
  exact ⟨.non, _, I', rfl, q⟩
theorem ints_by : ∀ {vs : List Value} {ns : List Int}, vs.length = ns.length → (∀ (j : Nat) (v : Value), vs[j]? = some v → ∃ n t, ns[j]? = some n ∧ v = Value.int n t) → IntsAre vs ns
  | [], [], _, _ => .nil
  | v :: vs, n :: ns, hl, h => by
    obtain ⟨m, t, e, rfl⟩ := h 0 v rfl
    have e : n = m := Option.some.inj e
    subst e
    exact .cons n t (ints_by (by simpa using hl) fun j v hv => by simpa using h (j + 1) v (by simpa using hv))
  | [], _ :: _, hl, _ => by simp at hl
  | _ :: _, [], hl, _ => by simp at hl
def rSortedD : List V → Hp → VK → Prop := fun vs H Q => ∃ (d : Addr) (kvs : List (Key × V)) (ns : List Int), vs = [V.ref d] ∧ H d = some (.dK kvs) ∧ kvs.map (·.1) = ns.map Sum.inl ∧ ns.length < 64 ∧
  ∀ (ns' : List Int) (p : Addr), ns'.Perm ns → ns'.Pairwise (· ≤ ·) → H p = none → Q (.ref p) (upd H p (.lst (ns'.map V.int)))
theorem cr_sortedD (hc : X.calm = true) : CallR X (.builtin "sorted") rSortedD := by
  intro pins s σ H vs us Q I r h
  obtain ⟨d, kvs, ns, rfl, hd, ek, h64, q⟩ := h
  rw [Vals.ref1 r]
  obtain ⟨z, g, vs1, rel, dd⟩ := dk_of I.hok hd
  obtain ⟨ep, hat⟩ := dd.dictAt
  have hl1 : kvs.length = vs1.length := Paired.length rel
  have hln : kvs.length = ns.length := by have := congrArg List.length ek; rwa [List.length_map, List.length_map] at this
  refine Calls.call_function_entry kind_sorted plain_sorted entry_sorted (args_sorted1 _) ?_
  unfold Builtin.«sorted»
  refine wpAny_bind (m := checkCount "sorted" 1 1 _) (wpAny_pure ?_)
  refine wpAny_bind (PySem.W.kdu_collect (A := X.A.in1) (PySem.W.kdl_dict (knd := mixKind X.prog X.w) (kvs := vs1) (ep := ep) g) (I.ok.hd hc) hat (by omega) fun h' tk acc hk hacc => ?_)
  have hl : acc.toList.length = vs1.length := by rw [Array.length_toList]; exact hacc.1
  have hi : IntsAre acc.toList ns := by
    refine ints_by (by omega) fun j v hv => ?_
    obtain ⟨k, x, hx, hk2⟩ := hacc.2 j v (by rw [← Array.getElem?_toList]; exact hv)
    obtain ⟨kv, hkv, hr⟩ : ∃ kv, kvs[j]? = some kv ∧ kv.1 = k := by
      have hj : j < kvs.length := by
        have := (List.getElem?_eq_some_iff.mp hx).1
        omega
      refine ⟨kvs[j], List.getElem?_eq_getElem hj, ?_⟩
      obtain ⟨u, hu, ru⟩ := kv_get rel (List.getElem?_eq_getElem hj)
      rw [hu] at hx
      have := Option.some.inj hx
      exact congrArg Prod.fst this
    have e1 : (kvs.map (·.1))[j]? = some k := by rw [List.getElem?_map, hkv]; exact congrArg some hr
    rw [ek, List.getElem?_map] at e1
    cases e2 : ns[j]? with
    | none =>
      rw [e2] at e1
      cases e1
    | some n =>
      rw [e2] at e1
      have e3 : Sum.inl n = k := Option.some.inj e1
      subst e3
      obtain ⟨t, e4⟩ := Value.isInt_shape (k := n) (v := v) hk2
      exact ⟨n, t, rfl, e4⟩
  refine wpAny_bind (wpAny_newList ?_ (by rw [hl]; omega))
  have hob : (h'.push (seqObj "list" acc.toList.toArray 0)).get? h'.objs.size = some (seqObj "list" acc.toList.toArray 0) := Heap.get?_push_size _ rfl
  show wpAny _ _ _ _ _ { s with heap := h'.push (seqObj "list" acc.toList.toArray 0), toks := tk }
  refine wpAny_bind (wpAny_holding (wpAny_call_entry slot_list_sort ⟨_, hob, rfl⟩ entry_list_sort (list_sort_tree (s := { s with heap := h'.push (seqObj "list" acc.toList.toArray 0), toks := tk }) hob hi (by omega) fun out ns' a1 a2 a3 => ⟨_, rfl, ?_⟩) (args_list_sort _)))
  obtain ⟨ep2, he2⟩ := PyProof.Rows.sortedHeap_at (vs := acc.toList) (out := out) hob
  have I' : Inv X pins σ H { s with heap := h', toks := tk } := I.kept (t' := tk) hk
  have hlen : (ns'.map V.int).length ≤ sizeLine := by rw [List.length_map, a2.length_eq]; exact small64 h64
  refine wpAny_pure ⟨_, rfl, .ref _, upd H h'.objs.size (.lst (ns'.map V.int)), I'.laid (t' := tk) (h' := PyProof.Rows.sortedHeap (h'.push (seqObj "list" acc.toList.toArray 0)) h'.objs.size acc.toList out) (fun b u hu => ?_) (Nat.le_refl _) ⟨hlen, out.toList, ep2, vals_of_ints a1, he2⟩, rfl, q ns' _ a2 a3 (I'.hok.fresh (Nat.le_refl _))⟩
  have hb : b < h'.objs.size := Heap.lt_size hu
  rw [PyProof.Rows.sortedHeap_old (Nat.ne_of_lt hb) (by rw [Heap.size_push]; exact Nat.lt_succ_of_lt hb)]
  exact Heap.get?_push_of_some _ hu
end
end L3
end
section
set_option linter.all false
set_option Elab.async false
set_option linter.all false
set_option maxRecDepth 100000
set_option maxHeartbeats 2000000
namespace U
open PySem PySem.Spec PyProof.Rows L2 L3 Lb
abbrev VSlot := Vbchah.Slot
abbrev VMem := Vbchah.Member
abbrev VSt := Vbchah.State
def top (i : Nat) : Stmt := PySem.Challenge.pw_lossbook_s01_answers.main.body.getD i (.Pass ⟨0, 0, 0, 0⟩)
structure Bt (mg : Str → Option Value) : Prop where
  b_len : mg "len" = none
  b_sum : mg "sum" = none
  b_min : mg "min" = none
  b_max : mg "max" = none
  b_dict : mg "dict" = none
  b_range : mg "range" = none
  b_sorted : mg "sorted" = none
  b_all : mg "all" = none
  b_list : mg "list" = none
structure Tn (mg : Str → Option Value) : Prop where
  c_MOST_MEMBERS : ∃ t, mg "MOST_MEMBERS" = some (.int 12 t)
  c_MOST_KEY : ∃ t, mg "MOST_KEY" = some (.int 1000000000 t)
  c_MOST_MONEY : ∃ t, mg "MOST_MONEY" = some (.int 1000000000000 t)
  c_MOST_WEIGHT : ∃ t, mg "MOST_WEIGHT" = some (.int 1000000 t)
  c_MOST_MULTIPLE : ∃ t, mg "MOST_MULTIPLE" = some (.int 10 t)
  c_MOST_LOSS : ∃ t, mg "MOST_LOSS" = some (.int 1000000000000000 t)
  c_LAST_LAYER : ∃ t, mg "LAST_LAYER" = some (.int 7 t)
  c_HOUSE_KEY : ∃ t, mg "HOUSE_KEY" = some (.int 0 t)
  c_NO_REFUSAL : ∃ t, mg "NO_REFUSAL" = some (.int 0 t)
  c_OUT_OF_RANGE : ∃ t, mg "OUT_OF_RANGE" = some (.int (-1) t)
  c_MEMBER_EXISTS : ∃ t, mg "MEMBER_EXISTS" = some (.int (-2) t)
  c_MORE_THAN_MOST : ∃ t, mg "MORE_THAN_MOST" = some (.int (-3) t)
  c_NO_MEMBER : ∃ t, mg "NO_MEMBER" = some (.int (-4) t)
  c_EVENT_IS_OPEN : ∃ t, mg "EVENT_IS_OPEN" = some (.int (-5) t)
  c_LOSS_OUT_OF_RANGE : ∃ t, mg "LOSS_OUT_OF_RANGE" = some (.int (-6) t)
  c_NO_EVENT : ∃ t, mg "NO_EVENT" = some (.int (-7) t)
  c_NO_BEARER : ∃ t, mg "NO_BEARER" = some (.int (-8) t)
  c_TOO_MANY_MEMBERS : ∃ t, mg "TOO_MANY_MEMBERS" = some (.int (-9) t)
  c_MARGIN : ∃ t, mg "MARGIN" = some (.int 1 t)
  c_FUND : ∃ t, mg "FUND" = some (.int 2 t)
  c_GAIN : ∃ t, mg "GAIN" = some (.int 3 t)
  c_WEIGHT : ∃ t, mg "WEIGHT" = some (.int 4 t)
  c_LAST_CHANGE : ∃ t, mg "LAST_CHANGE" = some (.int 6 t)
  c_FIRST_OF_UNITS : ∃ t, mg "FIRST_OF_UNITS" = some (.int 11 t)
  c_CHECK : ∃ t, mg "CHECK" = some (.int 16 t)
theorem small12 {n : Nat} (h : n ≤ 12) : n < sizeLine := Nat.lt_of_le_of_lt h (by decide)
theorem sum_int {α : Type} (f : α → Nat) : ∀ l : List α, (l.map fun z => ((f z : Nat) : Int)).sum = ((Vbchah.sum (l.map f) : Nat) : Int)
  | [] => rfl
  | a :: l => by
    rw [List.map_cons, List.sum_cons, sum_int f l, List.map_cons, sum_cons]
    omega
theorem dec_nat {a : Nat} {b : Int} {c : Nat} (h : b = c) : decide (V.int ((a : Nat) : Int) = V.int b) = decide (a = c) := by
  refine decide_eq_decide.mpr ⟨fun z => ?_, fun z => ?_⟩
  · injection z with z
    omega
  · rw [z, h]
theorem dec_int2 {a b : Int} : decide (V.int a = V.int b) = decide (a = b) := by
  refine decide_eq_decide.mpr ⟨fun z => ?_, fun z => ?_⟩
  · injection z
  · rw [z]
theorem map_at {α : Type} {f : α → V} {zs : List α} {i : Nat} {x : V} (h : (zs.map f)[i]? = some x) : ∃ z, zs[i]? = some z ∧ x = f z := by
  rw [List.getElem?_map] at h
  cases e : zs[i]? with
  | none =>
    rw [e] at h
    cases h
  | some z =>
    rw [e] at h
    exact ⟨z, rfl, (Option.some.inj h).symm⟩
theorem take_snoc {α : Type} {zs : List α} {i : Nat} {z : α} (h : zs[i]? = some z) : zs.take (i + 1) = zs.take i ++ [z] := by
  rw [List.take_succ, h]
  rfl
theorem lc_rangeP {lo : Int} {m i : Nat} {te : TE} {σ : L2.St} {H1 : Hp} {D : Addr} {Qd : Hp → Prop} (f : Nat → V) (hD : H1 D = none) (hm : m < sizeLine)
    (he : ∀ j, j < m → ∀ H', Same H1 H' → ∀ Q : VK, (∀ H4, Same H' H4 → Q (f j) H4) → te (σ.set i (some (.int (lo + j)))) H' Q)
    (hd : ∀ H', Same H1 H' → H' D = some (.lst ((List.range m).map f)) → Qd H') :
    ∃ W : Nat → Nat → Hp → Prop, (∃ m, W 0 m (upd H1 D (.lst []))) ∧ ∀ j m' H, W j m' H →
      ((Itr lo m).stop j H ∧ Qd H) ∨ ((Itr lo m).go j H ∧ ∃ Nx : Hp → Prop, (∀ H', Nx H' → ∃ m2, m2 < m' ∧ W (j + 1) m2 H') ∧ ∀ x H', (Itr lo m).yld j H x H' → gName i x (wipe σ [i]) H' fun σ2 H2 => wipe σ2 [i] = wipe σ [i] ∧ tYes σ2 H2 fun b H3 =>
        if b = true then te σ2 H3 fun y H4 => ∃ acc, H4 D = some (.lst acc) ∧ acc.length < sizeLine ∧ Nx (upd H4 D (.lst (acc ++ [y]))) else Nx H3) := by
  refine lc_range (lo := lo) (n := m) (fun j H => Same H1 H ∧ H D = some (.lst ((List.range j).map f))) ⟨Same.new hD, upd_same⟩ ?_ fun H ⟨s, h⟩ => hd H s h
  rintro j H hj ⟨s, h⟩
  refine ⟨wipe1 σ i _, ?_⟩
  show tYes ((wipe σ [i]).set i (some (.int (lo + j)))) H _
  rw [wset]
  refine yes_ok (ite2 (fun _ => ?_) fun h => absurd rfl h)
  refine he j hj H s _ fun H4 s4 => ⟨_, s4 _ _ h, ?_, (s.trans s4).lst hD, ?_⟩
  · rw [List.length_map, List.length_range]
    omega
  · rw [upd_same, List.range_succ, List.map_append]
    rfl
theorem lc_keysP {α : Type} (key : α → Int) {zs : List α} {kvs : List (Key × V)} {d : Addr} {o : Obj} {i : Nat} {tt : TT} {te : TE} {σ : L2.St} {H1 : Hp} {D : Addr} {Qd : Hp → Prop} (p : α → Bool) (f : α → V)
    (ek : kvs.map (·.1) = zs.map fun z => (Sum.inl (key z) : Key)) (hD : H1 D = none) (hd1 : H1 d = some (.frz o (.dK kvs))) (hlen : zs.length < sizeLine)
    (hp : ∀ z ∈ zs, ∀ H', Same H1 H' → ∀ Q : Bool → Hp → Prop, Q (p z) H' → tt (σ.set i (some (.int (key z)))) H' Q)
    (he : ∀ z ∈ zs, p z = true → ∀ H', Same H1 H' → ∀ Q : VK, (∀ H4, Same H' H4 → Q (f z) H4) → te (σ.set i (some (.int (key z)))) H' Q)
    (hd : ∀ H', Same H1 H' → H' D = some (.lst ((zs.filter p).map f)) → Qd H') :
    ∃ W : Nat → Nat → Hp → Prop, (∃ m, W 0 m (upd H1 D (.lst []))) ∧ ∀ j m H, W j m H →
      ((Itk d o kvs).stop j H ∧ Qd H) ∨ ((Itk d o kvs).go j H ∧ ∃ Nx : Hp → Prop, (∀ H', Nx H' → ∃ m', m' < m ∧ W (j + 1) m' H') ∧ ∀ x H', (Itk d o kvs).yld j H x H' → gName i x (wipe σ [i]) H' fun σ2 H2 => wipe σ2 [i] = wipe σ [i] ∧ tt σ2 H2 fun b H3 =>
        if b = true then te σ2 H3 fun y H4 => ∃ acc, H4 D = some (.lst acc) ∧ acc.length < sizeLine ∧ Nx (upd H4 D (.lst (acc ++ [y]))) else Nx H3) := by
  have hl : kvs.length = zs.length := by
    have := congrArg List.length ek
    rwa [List.length_map, List.length_map] at this
  refine ⟨fun j m H => m = zs.length - j ∧ j ≤ zs.length ∧ Same H1 H ∧ H D = some (.lst (((zs.take j).filter p).map f)), ⟨zs.length, by simp, Nat.zero_le _, Same.new hD, upd_same⟩, ?_⟩
  rintro j m H ⟨rfl, hj, s, h⟩
  by_cases hlt : j < zs.length
  · refine .inr ⟨⟨s _ _ hd1, by omega⟩, fun H => Same H1 H ∧ H D = some (.lst (((zs.take (j + 1)).filter p).map f)), fun H' ⟨s', h'⟩ => ⟨zs.length - (j + 1), by omega, rfl, hlt, s', h'⟩, ?_⟩
    rintro x H' ⟨rfl, k, v, hk, rfl⟩
    have hz : zs[j]? = some zs[j] := List.getElem?_eq_getElem hlt
    have mz : zs[j] ∈ zs := List.getElem_mem hlt
    generalize zs[j] = z at hz mz
    have ekk : k = Sum.inl (key z) := by
      have e1 : (kvs.map (·.1))[j]? = some k := by rw [List.getElem?_map, hk]; rfl
      rw [ek, List.getElem?_map, hz] at e1
      exact (Option.some.inj e1).symm
    subst ekk
    change gName i (V.int (key z)) (wipe σ [i]) H' _
    refine ⟨wipe1 σ i _, ?_⟩
    show tt ((wipe σ [i]).set i (some (.int (key z)))) H' _
    rw [wset]
    have et := take_succ_filter (p := p) hz
    refine hp z mz H' s _ (ite2 (fun hpz => ?_) fun hpz => ?_)
    · refine he z mz hpz H' s _ fun H4 s4 => ⟨_, s4 _ _ h, ?_, (s.trans s4).lst hD, ?_⟩
      · have h1 := List.length_filter_le p (zs.take j)
        have h3 := List.length_take_le' j zs
        rw [List.length_map]
        omega
      · rw [upd_same, et, if_pos hpz, List.map_append]
        rfl
    · refine ⟨s, ?_⟩
      rw [et, if_neg hpz, List.append_nil]
      exact h
  · have e : j = zs.length := by omega
    subst e
    rw [List.take_length] at h
    exact .inl ⟨⟨s _ _ hd1, by omega⟩, hd H s h⟩
theorem same_unlock {H H' : Hp} {d : Addr} {u w : HO} (hd : H d = some u) (s : Same (upd H d w) H') : Same H (upd H' d u) := fun b o e => by
  by_cases hb : b = d
  · subst hb
    rw [upd_same, ← hd]
    exact e
  · rw [upd_ne hb]
    exact s b o (by rw [upd_ne hb]; exact e)
theorem valV_find {α : Type} (key : α → Nat) (g : α → V) : ∀ (ss : List α) (k : Nat), valV (ss.map fun s => ((Sum.inl (key s : Int) : Key), g s)) (Sum.inl (k : Int)) = (ss.find? fun s => key s == k).map g
  | [], k => rfl
  | a :: ss, k => by
    rw [List.map_cons]
    by_cases h : key a = k
    · rw [valV_pos (by rw [h]), List.find?_cons_of_pos (by rw [h]; exact beq_self_eq_true k)]
      rfl
    · rw [valV_neg (fun e => h (by have e2 := Sum.inl.inj e; omega)), valV_find key g ss k, List.find?_cons_of_neg (by intro e; exact h (eq_of_beq e))]
theorem nodup_len {α : Type} : ∀ {l m : List α}, l.Nodup → (∀ x ∈ l, x ∈ m) → l.length ≤ m.length
  | [], m, _, _ => Nat.zero_le _
  | a :: l, m, h, hs => by
    obtain ⟨h1, h2⟩ := List.nodup_cons.mp h
    obtain ⟨m1, m2, rfl⟩ := List.append_of_mem (hs a (List.mem_cons_self ..))
    have := nodup_len (l := l) (m := m1 ++ m2) h2 fun x hx => by
      have := hs x (List.mem_cons_of_mem _ hx)
      rcases List.mem_append.mp this with q | q
      · exact List.mem_append.mpr (.inl q)
      · rcases List.mem_cons.mp q with q | q
        · rw [q] at hx
          exact absurd hx h1
        · exact List.mem_append.mpr (.inr q)
    rw [List.length_cons, List.length_append, List.length_cons]
    rw [List.length_append] at this
    omega
end U
end
section
set_option linter.all false
set_option Elab.async false
set_option linter.all false
set_option maxRecDepth 100000
set_option maxHeartbeats 2000000
namespace U
open PySem PySem.Spec PyProof.Rows L2 L3 Lb
def spIn (lo : Int) (hi : Nat) : Sp := fun vs H Q _ => ∃ z : Int, vs = [.int z] ∧ Q (.bl (Vbchah.within z lo hi)) H
section
variable {P : Program} {w : World} {K : PySem.W.Frag} {mg : Str → Option Value} {base : Heap}
abbrev s_is_member_key : Stmt := top 8
theorem sc_is_member_key : FnScope ["key"] ["key"] (defScope s_is_member_key) := ⟨rfl, rfl, rfl, by decide +kernel, rfl, by decide +kernel, by decide +kernel⟩
theorem ok_is_member_key {f : Addr} {fd : FuncData} (F : Fun K "is_member_key" "is_member_key" s_is_member_key f fd) (T : Tn mg) : FnOk P w K mg base CX0 1 f fd ["key"] (spIn 1 Vbchah.KEY) := by
  refine F.ok sc_is_member_key (fun vs H Q E h => ?_) (fun cdv A outer s H vs Q E hr h => ?_)
  · obtain ⟨z, rfl, _⟩ := h
    rfl
  · obtain ⟨z, rfl, k⟩ := h
    refine ⟨_, (pss_one (ps_ret (pe_chain op_le op_le pe_int (pv 0) (pe_num T.c_MOST_KEY)))), ?_⟩
    refine ⟨_, rfl, _, _, rfl, rfl, _, rfl, ite2 (fun h => ⟨_, _, rfl, rfl, ?_⟩) fun h => ?_⟩
    · have e : Vbchah.within z 1 Vbchah.KEY = decide (z ≤ ((Vbchah.KEY : Nat) : Int)) := by
        unfold Vbchah.within
        rw [h, Bool.true_and]
      rw [e] at k
      exact k
    · have e : Vbchah.within z 1 Vbchah.KEY = false := by
        unfold Vbchah.within
        rw [Bool.eq_false_iff.mpr h, Bool.false_and]
      rw [e] at k
      exact k
abbrev s_is_bearer_key : Stmt := top 9
theorem sc_is_bearer_key : FnScope ["key"] ["key"] (defScope s_is_bearer_key) := ⟨rfl, rfl, rfl, by decide +kernel, rfl, by decide +kernel, by decide +kernel⟩
theorem ok_is_bearer_key {f : Addr} {fd : FuncData} (F : Fun K "is_bearer_key" "is_bearer_key" s_is_bearer_key f fd) (T : Tn mg) : FnOk P w K mg base CX0 1 f fd ["key"] (spIn 0 Vbchah.KEY) := by
  refine F.ok sc_is_bearer_key (fun vs H Q E h => ?_) (fun cdv A outer s H vs Q E hr h => ?_)
  · obtain ⟨z, rfl, _⟩ := h
    rfl
  · obtain ⟨z, rfl, k⟩ := h
    refine ⟨_, (pss_one (ps_ret (pe_chain op_le op_le pe_int (pv 0) (pe_num T.c_MOST_KEY)))), ?_⟩
    refine ⟨_, rfl, _, _, rfl, rfl, _, rfl, ite2 (fun h => ⟨_, _, rfl, rfl, ?_⟩) fun h => ?_⟩
    · have e : Vbchah.within z 0 Vbchah.KEY = decide (z ≤ ((Vbchah.KEY : Nat) : Int)) := by
        unfold Vbchah.within
        rw [h, Bool.true_and]
      rw [e] at k
      exact k
    · have e : Vbchah.within z 0 Vbchah.KEY = false := by
        unfold Vbchah.within
        rw [Bool.eq_false_iff.mpr h, Bool.false_and]
      rw [e] at k
      exact k
abbrev s_is_money : Stmt := top 10
theorem sc_is_money : FnScope ["amount"] ["amount"] (defScope s_is_money) := ⟨rfl, rfl, rfl, by decide +kernel, rfl, by decide +kernel, by decide +kernel⟩
theorem ok_is_money {f : Addr} {fd : FuncData} (F : Fun K "is_money" "is_money" s_is_money f fd) (T : Tn mg) : FnOk P w K mg base CX0 1 f fd ["amount"] (spIn 0 Vbchah.MONEY) := by
  refine F.ok sc_is_money (fun vs H Q E h => ?_) (fun cdv A outer s H vs Q E hr h => ?_)
  · obtain ⟨z, rfl, _⟩ := h
    rfl
  · obtain ⟨z, rfl, k⟩ := h
    refine ⟨_, (pss_one (ps_ret (pe_chain op_le op_le pe_int (pv 0) (pe_num T.c_MOST_MONEY)))), ?_⟩
    refine ⟨_, rfl, _, _, rfl, rfl, _, rfl, ite2 (fun h => ⟨_, _, rfl, rfl, ?_⟩) fun h => ?_⟩
    · have e : Vbchah.within z 0 Vbchah.MONEY = decide (z ≤ ((Vbchah.MONEY : Nat) : Int)) := by
        unfold Vbchah.within
        rw [h, Bool.true_and]
      rw [e] at k
      exact k
    · have e : Vbchah.within z 0 Vbchah.MONEY = false := by
        unfold Vbchah.within
        rw [Bool.eq_false_iff.mpr h, Bool.false_and]
      rw [e] at k
      exact k
abbrev s_is_weight : Stmt := top 11
theorem sc_is_weight : FnScope ["amount"] ["amount"] (defScope s_is_weight) := ⟨rfl, rfl, rfl, by decide +kernel, rfl, by decide +kernel, by decide +kernel⟩
theorem ok_is_weight {f : Addr} {fd : FuncData} (F : Fun K "is_weight" "is_weight" s_is_weight f fd) (T : Tn mg) : FnOk P w K mg base CX0 1 f fd ["amount"] (spIn 0 Vbchah.WEIGHT) := by
  refine F.ok sc_is_weight (fun vs H Q E h => ?_) (fun cdv A outer s H vs Q E hr h => ?_)
  · obtain ⟨z, rfl, _⟩ := h
    rfl
  · obtain ⟨z, rfl, k⟩ := h
    refine ⟨_, (pss_one (ps_ret (pe_chain op_le op_le pe_int (pv 0) (pe_num T.c_MOST_WEIGHT)))), ?_⟩
    refine ⟨_, rfl, _, _, rfl, rfl, _, rfl, ite2 (fun h => ⟨_, _, rfl, rfl, ?_⟩) fun h => ?_⟩
    · have e : Vbchah.within z 0 Vbchah.WEIGHT = decide (z ≤ ((Vbchah.WEIGHT : Nat) : Int)) := by
        unfold Vbchah.within
        rw [h, Bool.true_and]
      rw [e] at k
      exact k
    · have e : Vbchah.within z 0 Vbchah.WEIGHT = false := by
        unfold Vbchah.within
        rw [Bool.eq_false_iff.mpr h, Bool.false_and]
      rw [e] at k
      exact k
abbrev s_is_multiple : Stmt := top 12
theorem sc_is_multiple : FnScope ["amount"] ["amount"] (defScope s_is_multiple) := ⟨rfl, rfl, rfl, by decide +kernel, rfl, by decide +kernel, by decide +kernel⟩
theorem ok_is_multiple {f : Addr} {fd : FuncData} (F : Fun K "is_multiple" "is_multiple" s_is_multiple f fd) (T : Tn mg) : FnOk P w K mg base CX0 1 f fd ["amount"] (spIn 0 10) := by
  refine F.ok sc_is_multiple (fun vs H Q E h => ?_) (fun cdv A outer s H vs Q E hr h => ?_)
  · obtain ⟨z, rfl, _⟩ := h
    rfl
  · obtain ⟨z, rfl, k⟩ := h
    refine ⟨_, (pss_one (ps_ret (pe_chain op_le op_le pe_int (pv 0) (pe_num T.c_MOST_MULTIPLE)))), ?_⟩
    refine ⟨_, rfl, _, _, rfl, rfl, _, rfl, ite2 (fun h => ⟨_, _, rfl, rfl, ?_⟩) fun h => ?_⟩
    · have e : Vbchah.within z 0 10 = decide (z ≤ ((10 : Nat) : Int)) := by
        unfold Vbchah.within
        rw [h, Bool.true_and]
      rw [e] at k
      exact k
    · have e : Vbchah.within z 0 10 = false := by
        unfold Vbchah.within
        rw [Bool.eq_false_iff.mpr h, Bool.false_and]
      rw [e] at k
      exact k
abbrev s_is_some_units : Stmt := top 13
theorem sc_is_some_units : FnScope ["amount"] ["amount"] (defScope s_is_some_units) := ⟨rfl, rfl, rfl, by decide +kernel, rfl, by decide +kernel, by decide +kernel⟩
theorem ok_is_some_units {f : Addr} {fd : FuncData} (F : Fun K "is_some_units" "is_some_units" s_is_some_units f fd) (T : Tn mg) : FnOk P w K mg base CX0 1 f fd ["amount"] (spIn 1 Vbchah.LOSS) := by
  refine F.ok sc_is_some_units (fun vs H Q E h => ?_) (fun cdv A outer s H vs Q E hr h => ?_)
  · obtain ⟨z, rfl, _⟩ := h
    rfl
  · obtain ⟨z, rfl, k⟩ := h
    refine ⟨_, (pss_one (ps_ret (pe_chain op_le op_le pe_int (pv 0) (pe_num T.c_MOST_LOSS)))), ?_⟩
    refine ⟨_, rfl, _, _, rfl, rfl, _, rfl, ite2 (fun h => ⟨_, _, rfl, rfl, ?_⟩) fun h => ?_⟩
    · have e : Vbchah.within z 1 Vbchah.LOSS = decide (z ≤ ((Vbchah.LOSS : Nat) : Int)) := by
        unfold Vbchah.within
        rw [h, Bool.true_and]
      rw [e] at k
      exact k
    · have e : Vbchah.within z 1 Vbchah.LOSS = false := by
        unfold Vbchah.within
        rw [Bool.eq_false_iff.mpr h, Bool.false_and]
      rw [e] at k
      exact k
abbrev s_is_loss : Stmt := top 14
theorem sc_is_loss : FnScope ["amount"] ["amount"] (defScope s_is_loss) := ⟨rfl, rfl, rfl, by decide +kernel, rfl, by decide +kernel, by decide +kernel⟩
theorem ok_is_loss {f : Addr} {fd : FuncData} (F : Fun K "is_loss" "is_loss" s_is_loss f fd) (T : Tn mg) : FnOk P w K mg base CX0 1 f fd ["amount"] (spIn 0 Vbchah.LOSS) := by
  refine F.ok sc_is_loss (fun vs H Q E h => ?_) (fun cdv A outer s H vs Q E hr h => ?_)
  · obtain ⟨z, rfl, _⟩ := h
    rfl
  · obtain ⟨z, rfl, k⟩ := h
    refine ⟨_, (pss_one (ps_ret (pe_chain op_le op_le pe_int (pv 0) (pe_num T.c_MOST_LOSS)))), ?_⟩
    refine ⟨_, rfl, _, _, rfl, rfl, _, rfl, ite2 (fun h => ⟨_, _, rfl, rfl, ?_⟩) fun h => ?_⟩
    · have e : Vbchah.within z 0 Vbchah.LOSS = decide (z ≤ ((Vbchah.LOSS : Nat) : Int)) := by
        unfold Vbchah.within
        rw [h, Bool.true_and]
      rw [e] at k
      exact k
    · have e : Vbchah.within z 0 Vbchah.LOSS = false := by
        unfold Vbchah.within
        rw [Bool.eq_false_iff.mpr h, Bool.false_and]
      rw [e] at k
      exact k
abbrev s_is_layer : Stmt := top 16
theorem sc_is_layer : FnScope ["k"] ["k"] (defScope s_is_layer) := ⟨rfl, rfl, rfl, by decide +kernel, rfl, by decide +kernel, by decide +kernel⟩
theorem ok_is_layer {f : Addr} {fd : FuncData} (F : Fun K "is_layer" "is_layer" s_is_layer f fd) (T : Tn mg) : FnOk P w K mg base CX0 1 f fd ["k"] (spIn 1 Vbchah.LAYERS) := by
  refine F.ok sc_is_layer (fun vs H Q E h => ?_) (fun cdv A outer s H vs Q E hr h => ?_)
  · obtain ⟨z, rfl, _⟩ := h
    rfl
  · obtain ⟨z, rfl, k⟩ := h
    refine ⟨_, (pss_one (ps_ret (pe_chain op_le op_le pe_int (pv 0) (pe_num T.c_LAST_LAYER)))), ?_⟩
    refine ⟨_, rfl, _, _, rfl, rfl, _, rfl, ite2 (fun h => ⟨_, _, rfl, rfl, ?_⟩) fun h => ?_⟩
    · have e : Vbchah.within z 1 Vbchah.LAYERS = decide (z ≤ ((Vbchah.LAYERS : Nat) : Int)) := by
        unfold Vbchah.within
        rw [h, Bool.true_and]
      rw [e] at k
      exact k
    · have e : Vbchah.within z 1 Vbchah.LAYERS = false := by
        unfold Vbchah.within
        rw [Bool.eq_false_iff.mpr h, Bool.false_and]
      rw [e] at k
      exact k
abbrev s_is_share_list : Stmt := top 15
def spShareList (K : PySem.W.Frag) : Sp := fun vs H Q _ => ∃ (g : Addr) (ns : List Int), vs = [.ref g] ∧ SqL K H g (ns.map V.int) ∧ ns.length < sizeLine ∧ ∀ H', Same H H' → Q (.bl (decide (ns.length ≤ Vbchah.MEMBERS) && ns.all fun z => Vbchah.within z 0 Vbchah.LOSS)) H'
theorem sc_is_share_list : FnScope ["given", "number"] ["given"] (defScope s_is_share_list) := ⟨rfl, rfl, rfl, by decide +kernel, rfl, by decide +kernel, by decide +kernel⟩
theorem ok_is_share_list {f : Addr} {fd : FuncData} (F : Fun K "is_share_list" "is_share_list" s_is_share_list f fd) (B : Bt mg) (T : Tn mg) (D_is_loss : Def P w K mg base "is_loss" 1 ["amount"] (spIn 0 Vbchah.LOSS)) :
    FnOk P w K mg base CX0 2 f fd ["given"] (spShareList K) := by
  refine F.ok sc_is_share_list (fun vs H Q E h => ?_) (fun cdv A outer s H vs Q E hr h => ?_)
  · obtain ⟨g, ns, rfl, _⟩ := h
    rfl
  · obtain ⟨g, ns, rfl, L, hl, k⟩ := h
    refine ⟨_, (pss_one (ps_ret (pe_and (pe_cmpR op_le (pe_callB call_len_seq rfl B.b_len PySem.boot_len (pa_cons (pv 0) pa_nil)) (pe_num T.c_MOST_MEMBERS) (nomark _)) (pe_one (pe_callB (cr_all rfl) rfl B.b_all boot_all (pa_cons (pe_lc rfl sc_is_share_list.nd (pi_list (pv 0)) (blkOk_by (own := [("number", 1)]) rfl) (fun _ _ _ _ _ => pg_name (i := 1) sc_is_share_list.nd rfl (Or.inl rfl)) (fun _ _ _ _ _ => pts_nil) (fun _ _ _ _ _ => (pe_def D_is_loss (hr.mono (by decide)) (pa_cons (pv 1) pa_nil)))) pa_nil)))))), ?_⟩
    refine ⟨_, rfl, g, _, rfl, .inl L, _, _, rfl, rfl, _, rfl, ite2 (fun h => ?_) fun h => ?_⟩
    · refine ⟨_, rfl, g, rfl, ⟨_, L⟩, fun D hD => lc_pure (fun z : Int => V.int z) (fun _ => true) (fun z => .bl (Vbchah.within z 0 Vbchah.LOSS)) hD L hl (fun _ _ _ _ _ q => q) (fun z hz _ H' s Q q => ⟨_, rfl, z, rfl, q _ (Same.refl _)⟩) fun H' s hDH => ?_⟩
      refine ⟨D, ns.map fun z => Vbchah.within z 0 Vbchah.LOSS, rfl, SqL.of ?_, ?_⟩
      · rw [hDH, filt_true, List.map_map]
        rfl
      · have h' : decide (ns.length ≤ Vbchah.MEMBERS) = true := by
          have := of_decide_eq_true h
          rw [List.length_map] at this
          refine decide_eq_true ?_
          unfold Vbchah.MEMBERS
          omega
        have := k H' s
        rw [h', Bool.true_and] at this
        rw [List.all_map]
        exact this
    · have h' : decide (ns.length ≤ Vbchah.MEMBERS) = false := by
        refine decide_eq_false fun z => h (decide_eq_true ?_)
        rw [List.length_map]
        unfold Vbchah.MEMBERS at z
        omega
      have := k H (Same.refl _)
      rw [h', Bool.false_and] at this
      exact this
end
end U
end
section
set_option linter.all false
set_option Elab.async false
set_option linter.all false
set_option maxRecDepth 100000
set_option maxHeartbeats 2000000
namespace U
open PySem PySem.Spec PyProof.Rows L2 L3 Lb
def bF (s : VSlot) : List (Str × V) := [("key", .int s.key), ("weight", .int s.weight), ("most", .int s.cap)]
theorem bF_key (s : VSlot) : (bF s).lookup ("key" : Str) = some (.int s.key) := rfl
theorem bF_weight (s : VSlot) : (bF s).lookup ("weight" : Str) = some (.int s.weight) := rfl
theorem bF_most (s : VSlot) : (bF s).lookup ("most" : Str) = some (.int s.cap) := rfl
def BearAt (C : Addr) (H : Hp) (a : Addr) (s : VSlot) : Prop := ∃ dx, H a = some (.ins C dx (bF s))
theorem BearAt.keep {C : Addr} {H H' : Hp} {a : Addr} {s : VSlot} (k : Keep H H') (b : BearAt C H a s) : BearAt C H' a s := by
  obtain ⟨dx, e⟩ := b
  exact ⟨dx, k _ _ e (fun _ z => nomatch z)⟩
structure BL (C : Addr) (H : Hp) (l : Addr) (zs : List (Addr × VSlot)) : Prop where
  lst : H l = some (.lst (zs.map fun z => V.ref z.1))
  at_ : ∀ z ∈ zs, BearAt C H z.1 z.2
theorem BL.sq {K : PySem.W.Frag} {C : Addr} {H : Hp} {l : Addr} {zs : List (Addr × VSlot)} (b : BL C H l zs) : SqL K H l (zs.map fun z => V.ref z.1) := SqL.of b.lst
theorem BL.same {C : Addr} {H H' : Hp} {l : Addr} {zs : List (Addr × VSlot)} (s : Same H H') (b : BL C H l zs) : BL C H' l zs :=
  ⟨s _ _ b.lst, fun z hz => (b.at_ z hz).keep (Same.keep s)⟩
def SameBut (d : Addr) (H H' : Hp) : Prop := ∀ b o, H b = some o → b ≠ d → H' b = some o
theorem SameBut.refl {d : Addr} {H : Hp} : SameBut d H H := fun _ _ e _ => e
theorem SameBut.trans {d : Addr} {H H1 H2 : Hp} (a : SameBut d H H1) (b : SameBut d H1 H2) : SameBut d H H2 := fun c o e n => b c o (a c o e n) n
theorem SameBut.upd {d : Addr} {H : Hp} {o : HO} : SameBut d H (upd H d o) := fun b u e n => by rw [upd_ne n]; exact e
theorem BL.but {C d : Addr} {H H' : Hp} {l : Addr} {zs : List (Addr × VSlot)} {kvs : List (Key × V)} (s : SameBut d H H') (hd : H d = some (.dK kvs)) (b : BL C H l zs) : BL C H' l zs := by
  refine ⟨s _ _ b.lst (ne_of b.lst hd (fun z => nomatch z)), fun z hz => ?_⟩
  obtain ⟨dx, e⟩ := b.at_ z hz
  exact ⟨dx, s _ _ e (ne_of e hd (fun z => nomatch z))⟩
abbrev sl (zs : List (Addr × VSlot)) : List VSlot := zs.map fun z => z.2
theorem sl_append (a b : List (Addr × VSlot)) : sl (a ++ b) = sl a ++ sl b := List.map_append
structure TB (K : PySem.W.Frag) (C : Addr) : Prop where
  cl : Cls K C
  nK : NoAttr K C "key"
  nW : NoAttr K C "weight"
  nM : NoAttr K C "most"
abbrev s_initB : Stmt := inClass (top 18) 0
def spInitB (C : Addr) : Sp := fun vs H Q _ => ∃ (p dx : Addr) (s : VSlot), vs = [.ref p, .int s.key, .int s.weight, .int s.cap] ∧ H p = some (.ins C dx []) ∧
  ∀ H' : Hp, H' p = some (.ins C dx (bF s)) → (∀ b o, H b = some o → b ≠ p → H' b = some o) → Q .non H'
section
variable {P : Program} {w : World} {K : PySem.W.Frag} {mg : Str → Option Value} {base : Heap} {C : Addr}
theorem sc_initB : FnScope ["self", "key", "weight", "most"] ["self", "key", "weight", "most"] (defScope s_initB) := ⟨rfl, rfl, rfl, by decide +kernel, rfl, by decide +kernel, by decide +kernel⟩
theorem ok_initB {f : Addr} {fd : FuncData} (F : Fun K "__init__" "Bearer.__init__" s_initB f fd) (T : TB K C) : FnOk P w K mg base CX0 1 f fd ["self", "key", "weight", "most"] (spInitB C) := by
  refine F.ok sc_initB (fun vs H Q E h => ?_) (fun cdv A outer s H vs Q E hr h => ?_)
  · obtain ⟨p, dx, s, rfl, _⟩ := h
    rfl
  · obtain ⟨p, dx, s, rfl, hp, k⟩ := h
    refine ⟨_, (pss_cons (ps_fld (pv 0) (pv 1) rfl)
      (pss_cons (ps_fld (pv 0) (pv 2) rfl)
      (pss_one (ps_fld (pv 0) (pv 3) rfl)))), ?_⟩
    refine ⟨_, rfl, _, rfl, p, C, dx, _, rfl, hp, T.cl, T.nK, (by show 0 < 1000; decide), ?_⟩
    refine ⟨_, rfl, _, rfl, p, C, dx, _, rfl, upd_same, T.cl, T.nW, (by show 1 < 1000; decide), ?_⟩
    refine ⟨_, rfl, _, rfl, p, C, dx, _, rfl, upd_same, T.cl, T.nM, (by show 2 < 1000; decide), ?_⟩
    exact k _ upd_same fun b o e hb => by rw [upd_ne hb, upd_ne hb, upd_ne hb]; exact e
theorem new_bear {H1 : Hp} {Q : VK} {s : VSlot} (q : ∀ x H2, Same H1 H2 → BearAt C H2 x s → Q (.ref x) H2) : ∀ x dx, H1 x = none → H1 dx = none → dx ≠ x →
    spInitB C (.ref x :: ([.int s.key, .int s.weight, .int s.cap] ++ [])) (upd (upd H1 dx (.own x)) x (.ins C dx [])) (fun v H2 => v = .non ∧ Q (.ref x) H2) E0 :=
  fun x dx nx nd _ => ⟨x, dx, s, rfl, upd_same, fun H' e k => ⟨rfl, q x H' (Same.made nx nd k) ⟨dx, e⟩⟩⟩
abbrev s_room : Stmt := top 19
abbrev s_weight : Stmt := top 26
def spRoom (C : Addr) : Sp := fun vs H Q _ => ∃ (l : Addr) (zs : List (Addr × VSlot)), vs = [.ref l] ∧ BL C H l zs ∧ zs.length ≤ 12 ∧ ∀ H', Same H H' → Q (.int (Vbchah.room (sl zs) : Nat)) H'
def spWeight (C : Addr) : Sp := fun vs H Q _ => ∃ (l : Addr) (zs : List (Addr × VSlot)), vs = [.ref l] ∧ BL C H l zs ∧ zs.length ≤ 12 ∧ ∀ H', Same H H' → Q (.int (wsum (sl zs) : Nat)) H'
theorem sc_room : FnScope ["bearers", "bearer"] ["bearers"] (defScope s_room) := ⟨rfl, rfl, rfl, by decide +kernel, rfl, by decide +kernel, by decide +kernel⟩
theorem ok_room {f : Addr} {fd : FuncData} (F : Fun K "room_of" "room_of" s_room f fd) (B : TB K C) (T : Bt mg) : FnOk P w K mg base CX0 1 f fd ["bearers"] (spRoom C) := by
  refine F.ok sc_room (fun vs H Q E h => ?_) (fun cdv A outer s H vs Q E hr h => ?_)
  · obtain ⟨l, zs, rfl, _⟩ := h
    rfl
  · obtain ⟨l, zs, rfl, L, hl, k⟩ := h
    refine ⟨_, (pss_one (ps_ret (pe_callB (cr_sum rfl) rfl T.b_sum boot_sum (pa_cons (pe_lc rfl sc_room.nd (pi_list (pv 0)) (blkOk_by (own := [("bearer", 1)]) rfl) (fun _ _ _ _ _ => pg_name (i := 1) sc_room.nd rfl (Or.inl rfl)) (fun _ _ _ _ _ => pts_nil) (fun _ _ _ _ _ => (pe_f (pv 1) rfl))) pa_nil)))), ?_⟩
    refine ⟨_, rfl, l, rfl, ⟨_, L.sq⟩, fun D hD => lc_pure (fun z : Addr × VSlot => V.ref z.1) (fun _ => true) (fun z => .int (z.2.cap : Nat)) hD L.sq (small12 hl) (fun _ _ _ _ _ q => q) (fun z hz _ H' s Q q => ?_) fun H' s hDH => ?_⟩
    · obtain ⟨dx, e⟩ := L.at_ z hz
      exact ⟨_, rfl, z.1, C, dx, _, _, rfl, s _ _ e, B.cl, B.nM, bF_most _, q _ (Same.refl _)⟩
    · refine ⟨D, zs.map fun z => ((z.2.cap : Nat) : Int), rfl, SqL.of ?_, ?_⟩
      · rw [hDH, filt_true, List.map_map]
        rfl
      · rw [sum_int]
        have e : Vbchah.sum (zs.map fun z => z.2.cap) = Vbchah.room (sl zs) := by
          unfold Vbchah.room
          rw [List.map_map]
          rfl
        rw [e]
        exact k H' s
theorem sc_weight : FnScope ["bearers", "bearer"] ["bearers"] (defScope s_weight) := ⟨rfl, rfl, rfl, by decide +kernel, rfl, by decide +kernel, by decide +kernel⟩
theorem ok_weight {f : Addr} {fd : FuncData} (F : Fun K "total_weight" "total_weight" s_weight f fd) (B : TB K C) (T : Bt mg) : FnOk P w K mg base CX0 1 f fd ["bearers"] (spWeight C) := by
  refine F.ok sc_weight (fun vs H Q E h => ?_) (fun cdv A outer s H vs Q E hr h => ?_)
  · obtain ⟨l, zs, rfl, _⟩ := h
    rfl
  · obtain ⟨l, zs, rfl, L, hl, k⟩ := h
    refine ⟨_, (pss_one (ps_ret (pe_callB (cr_sum rfl) rfl T.b_sum boot_sum (pa_cons (pe_lc rfl sc_weight.nd (pi_list (pv 0)) (blkOk_by (own := [("bearer", 1)]) rfl) (fun _ _ _ _ _ => pg_name (i := 1) sc_weight.nd rfl (Or.inl rfl)) (fun _ _ _ _ _ => pts_nil) (fun _ _ _ _ _ => (pe_f (pv 1) rfl))) pa_nil)))), ?_⟩
    refine ⟨_, rfl, l, rfl, ⟨_, L.sq⟩, fun D hD => lc_pure (fun z : Addr × VSlot => V.ref z.1) (fun _ => true) (fun z => .int (z.2.weight : Nat)) hD L.sq (small12 hl) (fun _ _ _ _ _ q => q) (fun z hz _ H' s Q q => ?_) fun H' s hDH => ?_⟩
    · obtain ⟨dx, e⟩ := L.at_ z hz
      exact ⟨_, rfl, z.1, C, dx, _, _, rfl, s _ _ e, B.cl, B.nW, bF_weight _, q _ (Same.refl _)⟩
    · refine ⟨D, zs.map fun z => ((z.2.weight : Nat) : Int), rfl, SqL.of ?_, ?_⟩
      · rw [hDH, filt_true, List.map_map]
        rfl
      · rw [sum_int]
        have e : Vbchah.sum (zs.map fun z => z.2.weight) = wsum (sl zs) := by
          unfold wsum
          rw [List.map_map]
          rfl
        rw [e]
        exact k H' s
abbrev s_filled : Stmt := top 25
structure Sm (ss : List VSlot) : Prop where
  len : ss.length ≤ 12
  caps : ∀ s ∈ ss, s.cap < 2 ^ 62
  wts : ∀ s ∈ ss, s.weight ≤ 1000000
abbrev isFull (ss : List VSlot) (n : Nat) (z : Addr × VSlot) : Bool := decide (z.2.cap * wsum ss ≤ n * z.2.weight)
def spFill (C : Addr) : Sp := fun vs H Q _ => ∃ (l : Addr) (zs : List (Addr × VSlot)) (n : Nat), vs = [.ref l, .int n] ∧ BL C H l zs ∧ Sm (sl zs) ∧ n < 2 ^ 62 ∧
  ∀ H' p, Same H H' → BL C H' p (zs.filter (isFull (sl zs) n)) → Q (.ref p) H'
theorem sc_filled : FnScope ["bearers", "units", "weights", "bearer"] ["bearers", "units"] (defScope s_filled) := ⟨rfl, rfl, rfl, by decide +kernel, rfl, by decide +kernel, by decide +kernel⟩
theorem ok_filled {f : Addr} {fd : FuncData} (F : Fun K "filled_by" "filled_by" s_filled f fd) (B : TB K C) (D_total_weight : Def P w K mg base "total_weight" 1 ["bearers"] (spWeight C)) : FnOk P w K mg base CX0 2 f fd ["bearers", "units"] (spFill C) := by
  refine F.ok sc_filled (fun vs H Q E h => ?_) (fun cdv A outer s H vs Q E hr h => ?_)
  · obtain ⟨l, zs, n, rfl, _⟩ := h
    rfl
  · obtain ⟨l, zs, n, rfl, L, S, hn, k⟩ := h
    have hl : zs.length ≤ 12 := by have := S.len; rwa [List.length_map] at this
    refine ⟨_, (pss_cons (ps_set (i := 2) sc_filled.nd rfl (Or.inr rfl) (pe_def D_total_weight (hr.mono (by decide)) (pa_cons (pv 0) pa_nil)))
      (pss_one (ps_ret (pe_lc rfl sc_filled.nd (pi_list (pv 0)) (blkOk_by (own := [("bearer", 3)]) rfl) (fun _ _ _ _ _ => pg_name (i := 3) sc_filled.nd rfl (Or.inl rfl)) (fun _ _ _ _ _ => (pts_one (pt_cmpR op_le (pe_op op_mul (pe_f (pv 3) rfl) (pv 2)) (pe_op op_mul (pv 1) (pe_f (pv 3) rfl)) (nomark _)))) (fun _ _ _ _ _ => (pv 3)))))), ?_⟩
    refine ⟨_, rfl, l, zs, rfl, L, hl, fun H1 s1 => ?_⟩
    have L1 := L.same s1
    refine ⟨_, rfl, l, rfl, ⟨_, L1.sq⟩, fun D hD => lc_pure (fun z : Addr × VSlot => V.ref z.1) (isFull (sl zs) n) (fun z => V.ref z.1) hD L1.sq (small12 hl) (fun z hz H' s2 Q q => ?_) (fun z hz _ H' s Q q => ⟨_, rfl, q _ (Same.refl _)⟩) fun H' s2 hDH => ?_⟩
    · obtain ⟨dx, e⟩ := L1.at_ z hz
      have hc : z.2.cap < 2 ^ 62 := S.caps _ (List.mem_map.mpr ⟨z, hz, rfl⟩)
      refine ⟨_, rfl, z.1, C, dx, _, _, rfl, s2 _ _ e, B.cl, B.nM, bF_most _, _, rfl, _, _, rfl, rfl, .inl ⟨by omega, by omega⟩, ?_⟩
      refine ⟨_, rfl, _, rfl, z.1, C, dx, _, _, rfl, s2 _ _ e, B.cl, B.nW, bF_weight _, _, _, rfl, rfl, .inl ⟨by omega, by omega⟩, _, _, rfl, rfl, _, rfl, ?_⟩
      have ed : decide (((z.2.cap : Nat) : Int) * ((wsum (sl zs) : Nat) : Int) ≤ ((n : Nat) : Int) * ((z.2.weight : Nat) : Int)) = isFull (sl zs) n z := by
        refine decide_eq_decide.mpr ?_
        rw [← Int.natCast_mul, ← Int.natCast_mul, Int.ofNat_le]
      rw [ed]
      exact q
    · exact k H' D (s1.trans s2) ⟨hDH, fun z hz => (L1.at_ z (List.mem_filter.mp hz).1).keep (Same.keep s2)⟩
abbrev s_before : Stmt := top 29
theorem dget_of {H : Hp} {d : Addr} {kvs : List (Key × V)} {n : Int} {v : V} (hd : H d = some (.dK kvs)) (e : valV kvs (Sum.inl n) = some v) : DGet H d (.int n) (some v) := .inl ⟨kvs, .inl n, .inl hd, rfl, e.symm⟩
structure Tab (kvs : List (Key × V)) (ss : List VSlot) (x : Nat → Nat) : Prop where
  at_ : ∀ s ∈ ss, valV kvs (Sum.inl (s.key : Int)) = some (.int (x s.key : Nat))
def spBefore (C : Addr) : Sp := fun vs H Q _ => ∃ (a b d : Addr) (s t : VSlot) (kvs : List (Key × V)) (g h : Nat), vs = [.ref a, .ref b, .ref d] ∧ BearAt C H a s ∧ BearAt C H b t ∧ H d = some (.dK kvs) ∧
  valV kvs (Sum.inl (s.key : Int)) = some (.int g) ∧ valV kvs (Sum.inl (t.key : Int)) = some (.int h) ∧ g < 2 ^ 62 ∧ h < 2 ^ 62 ∧ Q (.bl (decide ((g + 1) * t.weight < (h + 1) * s.weight))) H
theorem sc_before : FnScope ["one", "other", "given"] ["one", "other", "given"] (defScope s_before) := ⟨rfl, rfl, rfl, by decide +kernel, rfl, by decide +kernel, by decide +kernel⟩
theorem ok_before {f : Addr} {fd : FuncData} (F : Fun K "comes_before" "comes_before" s_before f fd) (B : TB K C) : FnOk P w K mg base CX0 1 f fd ["one", "other", "given"] (spBefore C) := by
  refine F.ok sc_before (fun vs H Q E h => ?_) (fun cdv A outer s H vs Q E hr h => ?_)
  · obtain ⟨a, b, d, s, t, kvs, g, h, rfl, _⟩ := h
    rfl
  · obtain ⟨a, b, d, s, t, kvs, g, h, rfl, ⟨dx, ha⟩, ⟨dy, hb⟩, hd, eg, eh, bg, bh, k⟩ := h
    have hu := hu_of hr
    refine ⟨_, (pss_one (ps_ret (pe_cmpR op_lt (pe_op op_mul (pe_op op_add (pe_dget hu (pv 2) (pe_f (pv 0) rfl) (fun _ _ => rfl)) pe_int) (pe_f (pv 1) rfl)) (pe_op op_mul (pe_op op_add (pe_dget hu (pv 2) (pe_f (pv 1) rfl) (fun _ _ => rfl)) pe_int) (pe_f (pv 0) rfl)) (nomark _)))), ?_⟩
    refine ⟨_, rfl, _, rfl, a, C, dx, _, _, rfl, ha, B.cl, B.nK, bF_key _, d, _, rfl, dget_of hd eg, _, _, rfl, rfl, _, rfl, b, C, dy, _, _, rfl, hb, B.cl, B.nW, bF_weight _, _, _, rfl, rfl, .inl ⟨by omega, by omega⟩, ?_⟩
    refine ⟨_, rfl, _, rfl, b, C, dy, _, _, rfl, hb, B.cl, B.nK, bF_key _, d, _, rfl, dget_of hd eh, _, _, rfl, rfl, _, rfl, a, C, dx, _, _, rfl, ha, B.cl, B.nW, bF_weight _, _, _, rfl, rfl, .inl ⟨by omega, by omega⟩, _, _, rfl, rfl, ?_⟩
    have ed : decide ((((g : Nat) : Int) + 1) * ((t.weight : Nat) : Int) < (((h : Nat) : Int) + 1) * ((s.weight : Nat) : Int)) = decide ((g + 1) * t.weight < (h + 1) * s.weight) := by
      refine decide_eq_decide.mpr ?_
      rw [← Int.natCast_succ, ← Int.natCast_succ, ← Int.natCast_mul, ← Int.natCast_mul, Int.ofNat_lt]
    rw [← ed] at k
    exact k
abbrev s_next : Stmt := top 28
def spNext (C : Addr) : Sp := fun vs H Q _ => ∃ (l d : Addr) (zs : List (Addr × VSlot)) (kvs : List (Key × V)) (x : Nat → Nat), vs = [.ref l, .ref d] ∧ BL C H l zs ∧ H d = some (.dK kvs) ∧ Tab kvs (sl zs) x ∧ Rising (sl zs) ∧
  (∀ s ∈ sl zs, 0 < s.weight) ∧ (∀ s ∈ sl zs, x s.key < 2 ^ 62) ∧ (∃ s ∈ sl zs, x s.key < s.cap) ∧ ∀ z, z ∈ zs → Best (sl zs) x z.2 → Q (.ref z.1) H
theorem sc_next : FnScope ["bearers", "given", "taker", "bearer"] ["bearers", "given"] (defScope s_next) := ⟨rfl, rfl, rfl, by decide +kernel, rfl, by decide +kernel, by decide +kernel⟩
theorem ok_next {f : Addr} {fd : FuncData} (F : Fun K "next_taker" "next_taker" s_next f fd) (B : TB K C) (D_comes_before : Def P w K mg base "comes_before" 1 ["one", "other", "given"] (spBefore C)) :
    FnOk P w K mg base CX0 2 f fd ["bearers", "given"] (spNext C) := by
  refine F.ok sc_next (fun vs H Q E h => ?_) (fun cdv A outer s H vs Q E hr h => ?_)
  · obtain ⟨l, d, zs, kvs, x, rfl, _⟩ := h
    rfl
  · obtain ⟨l, d, zs, kvs, x, rfl, L, hd, T, R, pos, bx, some_, k⟩ := h
    have hu := hu_of hr
    refine ⟨_, (pss_cons (ps_set (i := 2) sc_next.nd rfl (Or.inl rfl) pe_non)
      (pss_cons (ps_for PassesOwn.never rfl (pi_list (pv 0)) (pg_name (i := 3) sc_next.nd rfl (Or.inl rfl)) (pss_one (ps_if (pw_and (pt_cmpR op_lt (pe_dget hu (pv 1) (pe_f (pv 3) rfl) (fun _ _ => rfl)) (pe_f (pv 3) rfl) (nomark _)) (pw_and1 (pw_or (pt_cmp (pc_isN (pv 2))) (pw_or1 (pt_val (pe_def D_comes_before (hr.mono (by decide)) (pa_cons (pv 3) (pa_cons (pv 2) (pa_cons (pv 1) pa_nil))))))).pt)).pt (pss_one (ps_set (i := 2) sc_next.nd rfl (Or.inl rfl) (pv 3))) pss_nil)))
      (pss_one (ps_ret (pv 2))))), ?_⟩
    refine ⟨_, rfl, l, rfl, ⟨_, L.sq⟩, for_list (K := K) (a := l) (xs := zs.map fun z => V.ref z.1) (fun i σ H' => H' = H ∧ ∃ (tk : V) (bv : Option V), σ = [some (.ref l), some (.ref d), some tk, bv] ∧
      ((tk = .non ∧ ∀ j ∈ sl (zs.take i), ¬ x j.key < j.cap) ∨ ∃ z, z ∈ zs.take i ∧ tk = .ref z.1 ∧ Best (sl (zs.take i)) x z.2)) ⟨rfl, .non, none, rfl, .inl ⟨rfl, fun j hj => absurd hj (by simp)⟩⟩ (fun i σ H' _ ⟨e, _⟩ => by rw [e]; exact L.sq) ?_ ?_⟩
    · rintro i y σ H' hi ⟨rfl, tk, bv, rfl, inv⟩
      obtain ⟨z, hz, rfl⟩ := map_at hi
      have mz : z ∈ zs := List.mem_of_getElem? hz
      have ms : z.2 ∈ sl zs := List.mem_map.mpr ⟨z, mz, rfl⟩
      obtain ⟨dx, e⟩ := L.at_ z mz
      have ht : sl (zs.take (i + 1)) = sl (zs.take i) ++ [z.2] := by rw [take_snoc hz, sl_append]; rfl
      have posT : ∀ s ∈ sl (zs.take i) ++ [z.2], 0 < s.weight := fun s hs => by
        rw [← ht] at hs
        obtain ⟨q, hq, rfl⟩ := List.mem_map.mp hs
        exact pos _ (List.mem_map.mpr ⟨q, List.mem_of_mem_take hq, rfl⟩)
      refine ⟨_, rfl, _, rfl, z.1, C, dx, _, _, rfl, e, B.cl, B.nK, bF_key _, d, _, rfl, dget_of hd (T.at_ _ ms), _, rfl, z.1, C, dx, _, _, rfl, e, B.cl, B.nM, bF_most _, _, _, rfl, rfl, _, rfl, ?_⟩
      refine ite2 (fun h => ?_) fun h => ?_
      · have hlt : x z.2.key < z.2.cap := by have := of_decide_eq_true h; omega
        refine ⟨tk, rfl, _, rfl, ?_⟩
        rcases inv with ⟨rfl, none_⟩ | ⟨t, mt, rfl, best⟩
        · refine ite2 (fun _ => ?_) fun h => absurd rfl h
          refine ite2 (fun _ => ?_) fun h => absurd rfl h
          refine ⟨_, rfl, rfl, _, _, rfl, .inr ⟨z, by rw [take_snoc hz]; simp, rfl, ?_⟩⟩
          rw [ht]
          exact best_first hlt none_
        · refine ite2 (fun h => by cases h) fun _ => ?_
          have mt' : t ∈ zs := List.mem_of_mem_take mt
          refine ⟨_, rfl, _, rfl, _, rfl, z.1, t.1, d, z.2, t.2, kvs, x z.2.key, x t.2.key, rfl, ⟨dx, e⟩, L.at_ t mt', hd, T.at_ _ ms, T.at_ _ (List.mem_map.mpr ⟨t, mt', rfl⟩), bx _ ms, bx _ (List.mem_map.mpr ⟨t, mt', rfl⟩), _, rfl, ?_⟩
          refine ite2 (fun h => ?_) fun h => ?_
          · refine ⟨_, rfl, rfl, _, _, rfl, .inr ⟨z, by rw [take_snoc hz]; simp, rfl, ?_⟩⟩
            rw [ht]
            exact best_new best posT hlt (of_decide_eq_true h)
          · refine ⟨rfl, _, _, rfl, .inr ⟨t, by rw [take_snoc hz]; simp [mt], rfl, ?_⟩⟩
            rw [ht]
            refine best_old best ?_ (fun q => h (decide_eq_true q))
            have Rt : Rising (sl (zs.take i) ++ [z.2]) := by rw [← ht]; exact R.sublist (List.Sublist.map _ (List.take_sublist _ _))
            exact Nat.le_of_lt ((List.pairwise_append.mp Rt).2.2 t.2 (List.mem_map.mpr ⟨t, mt, rfl⟩) z.2 (List.mem_singleton.mpr rfl))
      · have hge : ¬ x z.2.key < z.2.cap := fun q => h (decide_eq_true (by omega))
        refine ite2 (fun h => by cases h) fun _ => ?_
        refine ⟨rfl, _, _, rfl, ?_⟩
        rcases inv with ⟨rfl, none_⟩ | ⟨t, mt, rfl, best⟩
        · refine .inl ⟨rfl, fun j hj => ?_⟩
          rw [ht] at hj
          rcases List.mem_append.mp hj with q | q
          · exact none_ j q
          · rw [List.mem_singleton.mp q]; exact hge
        · refine .inr ⟨t, by rw [take_snoc hz]; simp [mt], rfl, ?_⟩
          rw [ht]
          exact best_full best hge
    · rintro σ H' ⟨rfl, tk, bv, rfl, inv⟩
      rw [List.length_map, List.take_length] at inv
      refine ⟨_, rfl, ?_⟩
      rcases inv with ⟨rfl, none_⟩ | ⟨t, mt, rfl, best⟩
      · obtain ⟨s, ms, hs⟩ := some_
        exact absurd hs (none_ s ms)
      · exact k t mt best
end
end U
end
section
set_option linter.all false
set_option Elab.async false
set_option linter.all false
set_option maxRecDepth 100000
set_option maxHeartbeats 2000000
namespace U
open PySem PySem.Spec PyProof.Rows L2 L3 Lb
theorem sl_filter (zs : List (Addr × VSlot)) (q : VSlot → Bool) : sl (zs.filter fun z => q z.2) = (sl zs).filter q := by
  rw [List.filter_map]
  rfl
structure KeysIn (kvs : List (Key × V)) (ss : List VSlot) : Prop where
  nd : (kvs.map (·.1)).Nodup
  sub : ∀ k ∈ kvs.map (·.1), ∃ s ∈ ss, k = Sum.inl (s.key : Int)
theorem KeysIn.nil {ss : List VSlot} : KeysIn [] ss := ⟨List.nodup_nil, fun _ h => absurd h List.not_mem_nil⟩
theorem keys_map (kvs : List (Key × V)) (k : Key) (v : V) : (kvs.map fun kv => if kv.1 = k then (kv.1, v) else kv).map (·.1) = kvs.map (·.1) := by
  rw [List.map_map]
  refine List.map_congr_left fun kv _ => ?_
  show (if kv.1 = k then (kv.1, v) else kv).1 = kv.1
  split <;> rfl
theorem KeysIn.put {kvs : List (Key × V)} {ss : List VSlot} (h : KeysIn kvs ss) {s : VSlot} (hs : s ∈ ss) (v : V) : KeysIn (putK kvs (Sum.inl (s.key : Int)) v) ss := by
  cases e : valV kvs (Sum.inl (s.key : Int)) with
  | none =>
    refine ⟨nd_putK v h.nd e, fun k hk => ?_⟩
    rw [putK_new v e, List.map_append] at hk
    rcases List.mem_append.mp hk with q | q
    · exact h.sub k q
    · exact ⟨s, hs, List.mem_singleton.mp q⟩
  | some u =>
    have ek : (putK kvs (Sum.inl (s.key : Int)) v).map (·.1) = kvs.map (·.1) := by
      unfold putK
      rw [if_pos (by rw [valV_any, e]; rfl)]
      exact keys_map kvs _ v
    exact ⟨by rw [ek]; exact h.nd, fun k hk => by rw [ek] at hk; exact h.sub k hk⟩
theorem KeysIn.len {kvs : List (Key × V)} {ss : List VSlot} (h : KeysIn kvs ss) : kvs.length ≤ ss.length := by
  have := nodup_len (m := ss.map fun s => (Sum.inl (s.key : Int) : Key)) h.nd fun k hk => by
    obtain ⟨s, hs, rfl⟩ := h.sub k hk
    exact List.mem_map.mpr ⟨s, hs, rfl⟩
  rwa [List.length_map, List.length_map] at this
theorem KeysIn.none_of {kvs : List (Key × V)} {ss : List VSlot} (h : KeysIn kvs ss) {k : Key} (hk : ∀ s ∈ ss, k ≠ Sum.inl (s.key : Int)) : valV kvs k = none := by
  cases e : valV kvs k with
  | none => rfl
  | some v =>
    obtain ⟨s, hs, q⟩ := h.sub k (valV_in e)
    exact absurd q (hk s hs)
section
variable {P : Program} {w : World} {K : PySem.W.Frag} {mg : Str → Option Value} {base : Heap} {C : Addr}
theorem inl_ne {a b : Nat} (h : a ≠ b) : ¬ (Sum.inl (a : Int) : Key) = Sum.inl (b : Int) := fun e => h (by have := Sum.inl.inj e; omega)
abbrev s_give : Stmt := top 27
structure GiveOk (l : Addr) (d : Addr) (zs : List (Addr × VSlot)) (all : List VSlot) (a r : Nat) : Prop where
  rise : Rising all
  good : Good all
  caps : ∀ s ∈ all, s.cap < 2 ^ 62
  riseZ : Rising (sl zs)
  sub : ∀ s ∈ sl zs, s ∈ all
  room : a + r ≤ Vbchah.room all
  small : r < 2 ^ 62
  len : all.length ≤ 12
def spGive (C : Addr) : Sp := fun vs H Q _ => ∃ (l d : Addr) (zs : List (Addr × VSlot)) (kvs : List (Key × V)) (all : List VSlot) (x : Nat → Nat) (a r : Nat), vs = [.ref l, .ref d, .int (r : Nat)] ∧ BL C H l zs ∧ H d = some (.dK kvs) ∧
  Tab kvs all x ∧ Right all a x ∧ (∀ s ∈ all, s ∈ sl zs ∨ ¬ x s.key < s.cap) ∧ GiveOk l d zs all a r ∧ KeysIn kvs all ∧
  ∀ H' kvs' x', SameBut d H H' → H' d = some (.dK kvs') → Tab kvs' all x' → Right all (a + r) x' → KeysIn kvs' all → Q .non H'
theorem sc_give : FnScope ["bearers", "given", "units", "unit", "taker"] ["bearers", "given", "units"] (defScope s_give) := ⟨rfl, rfl, rfl, by decide +kernel, rfl, by decide +kernel, by decide +kernel⟩
theorem ok_give {f : Addr} {fd : FuncData} (F : Fun K "give_one_by_one" "give_one_by_one" s_give f fd) (B : TB K C) (T : Bt mg) (D_next_taker : Def P w K mg base "next_taker" 2 ["bearers", "given"] (spNext C)) :
    FnOk P w K mg base CX0 3 f fd ["bearers", "given", "units"] (spGive C) := by
  refine F.ok sc_give (fun vs H Q E h => ?_) (fun cdv A outer s H vs Q E hr h => ?_)
  · obtain ⟨l, d, zs, kvs, all, x, a, r, rfl, _⟩ := h
    rfl
  · obtain ⟨l, d, zs, kvs, all, x, a, r, rfl, L, hd, tab, R, oth, G, keys, k⟩ := h
    have hu := hu_of hr
    refine ⟨_, (pss_one (ps_for PassesOwn.never rfl (pi_range1 rfl T.b_range (pa_cons (pv 2) pa_nil)) (pg_name (i := 3) sc_give.nd rfl (Or.inl rfl)) (pss_cons (ps_set (i := 4) sc_give.nd rfl (Or.inl rfl) (pe_def D_next_taker (hr.mono (by decide)) (pa_cons (pv 0) (pa_cons (pv 1) pa_nil))))
      (pss_one (ps_daug hu (pv 1) (pe_f (pv 4) rfl) pe_int in_add (by intros; rfl)))))), ?_⟩
    have hsm := G.small
    refine ⟨_, rfl, (r : Int), rfl, by omega, by omega, for_range (lo := 0) (n := (r : Int).toNat) (fun i σ H' => ∃ (kvs' : List (Key × V)) (x' : Nat → Nat) (bv tv : Option V), σ = [some (.ref l), some (.ref d), some (.int (r : Nat)), bv, tv] ∧ SameBut d H H' ∧ H' d = some (.dK kvs') ∧
      Tab kvs' all x' ∧ Right all (a + i) x' ∧ (∀ s ∈ all, s ∈ sl zs ∨ ¬ x' s.key < s.cap) ∧ KeysIn kvs' all)
      ⟨kvs, x, none, none, rfl, SameBut.refl, hd, tab, R, oth, keys⟩ ?_ ?_⟩
    · rintro i σ H' hi ⟨kvs', x', bv, tv, rfl, sb, hd', tab', R', oth', keys'⟩
      have L' := L.but sb hd
      have hroom := G.room
      obtain ⟨t, Bt⟩ := R'.more G.rise G.good (by omega)
      refine ⟨_, rfl, _, rfl, l, d, zs, kvs', x', rfl, L', hd', ⟨fun s hs => tab'.at_ s (G.sub s hs)⟩, G.riseZ, fun s hs => G.good.pos s (G.sub s hs), fun s hs => ?_, ⟨t, ?_, Bt.2.1⟩, fun z mz best => ?_⟩
      · have h1 := R'.cap s (G.sub s hs)
        have h2 := G.caps s (G.sub s hs)
        omega
      · rcases oth' t Bt.1 with q | q
        · exact q
        · exact absurd Bt.2.1 q
      · have msz : z.2 ∈ sl zs := List.mem_map.mpr ⟨z, mz, rfl⟩
        have mall := G.sub _ msz
        obtain ⟨dx, e⟩ := L'.at_ z mz
        have ev := tab'.at_ z.2 mall
        refine ⟨_, rfl, _, rfl, z.1, C, dx, _, _, rfl, e, B.cl, B.nK, bF_key _, d, _, rfl, dget_of hd' ev, _, _, rfl, rfl, _, DPut.k (k := Sum.inl (z.2.key : Int)) hd' (small12 (Nat.le_trans keys'.len G.len)), ?_⟩
        have BA : Best all x' z.2 := best_ext G.sub oth' best
        refine ⟨_, bump x' z.2.key, _, _, rfl, sb.trans SameBut.upd, upd_same, ⟨fun s hs => ?_⟩, R'.step G.good BA.1 BA.2, fun s hs => ?_, keys'.put mall _⟩
        · rw [valV_put]
          by_cases q : s.key = z.2.key
          · rw [if_pos (by rw [q]), q, bump_same]
            rfl
          · rw [if_neg (inl_ne q), bump_ne x' q]
            exact tab'.at_ s hs
        · rcases oth' s hs with q | q
          · exact .inl q
          · by_cases q2 : s.key = z.2.key
            · have := key_inj G.good.keys hs mall q2
              subst this
              exact .inl msz
            · rw [bump_ne x' q2]
              exact .inr q
    · rintro σ H' ⟨kvs', x', bv, tv, rfl, sb, hd', tab', R', oth', keys'⟩
      have er : (r : Int).toNat = r := Int.toNat_natCast r
      rw [er] at R'
      exact k H' kvs' x' sb hd' tab' R' keys'
end
end U
end
section
set_option linter.all false
set_option Elab.async false
set_option linter.all false
set_option maxRecDepth 100000
set_option maxHeartbeats 2000000
namespace U
open PySem PySem.Spec PyProof.Rows L2 L3 Lb
section
variable {P : Program} {w : World} {K : PySem.W.Frag} {mg : Str → Option Value} {base : Heap} {C : Addr}
abbrev s_given : Stmt := top 24
def spGiven (C : Addr) : Sp := fun vs H Q _ => ∃ (l : Addr) (zs : List (Addr × VSlot)) (n : Nat), vs = [.ref l, .int (n : Nat)] ∧ BL C H l zs ∧ Sm (sl zs) ∧ Rising (sl zs) ∧ (∀ s ∈ sl zs, 0 < s.weight) ∧ n ≤ Vbchah.room (sl zs) ∧ n < 2 ^ 62 ∧
  ∀ H' d kvs, Same H H' → H d = none → H' d = some (.dK kvs) → (∀ s ∈ sl zs, valV kvs (Sum.inl (s.key : Int)) = some (.int (Vbchah.portion (sl zs) n s : Nat))) → KeysIn kvs (sl zs) → Q (.ref d) H'
theorem sc_given : FnScope ["bearers", "units", "given", "waiting", "left", "full", "bearer", "weights"] ["bearers", "units"] (defScope s_given) := ⟨rfl, rfl, rfl, by decide +kernel, rfl, by decide +kernel, by decide +kernel⟩
structure FillInv (C : Addr) (H H' : Hp) (d : Addr) (zs : List (Addr × VSlot)) (n : Nat) (wl fl : Addr) (p : VSlot → Bool) (left : Nat) (kvs : List (Key × V)) : Prop where
  but : Same H H'
  dict : H' d = some (.dK kvs)
  wait : BL C H' wl (zs.filter fun z => !p z.2)
  full : BL C H' fl ((zs.filter fun z => !p z.2).filter (isFull (sl (zs.filter fun z => !p z.2)) left))
  fil : Filling (sl zs) n p (sl (zs.filter fun z => !p z.2)) left
  yes : ∀ s ∈ sl zs, p s = true → valV kvs (Sum.inl (s.key : Int)) = some (.int (s.cap : Nat))
  no : ∀ s ∈ sl zs, p s = false → valV kvs (Sum.inl (s.key : Int)) = none
  keys : KeysIn kvs (sl zs)
theorem filter_not_or {zs : List (Addr × VSlot)} (p q : VSlot → Bool) : (zs.filter fun z => !p z.2).filter (fun z => !(p z.2 || q z.2)) = zs.filter fun z => !(p z.2 || q z.2) := by
  rw [List.filter_filter]
  congr 1
  funext z
  cases p z.2 <;> cases q z.2 <;> rfl
theorem Sm.filter {zs : List (Addr × VSlot)} (S : Sm (sl zs)) (q : Addr × VSlot → Bool) : Sm (sl (zs.filter q)) := by
  have sub : ∀ s ∈ sl (zs.filter q), s ∈ sl zs := fun s hs => by
    obtain ⟨z, hz, rfl⟩ := List.mem_map.mp hs
    exact List.mem_map.mpr ⟨z, (List.mem_filter.mp hz).1, rfl⟩
  refine ⟨?_, fun s hs => S.caps s (sub s hs), fun s hs => S.wts s (sub s hs)⟩
  have h := S.len
  rw [List.length_map] at h ⊢
  exact Nat.le_trans (List.length_filter_le _ _) h
theorem wsum_small {ss : List VSlot} (S : Sm ss) : wsum ss ≤ 12000000 := by
  have h : ∀ l : List VSlot, (∀ s ∈ l, s.weight ≤ 1000000) → wsum l ≤ 1000000 * l.length := fun l => by
    induction l with
    | nil => intro _; exact Nat.zero_le _
    | cons a l ih =>
      intro h
      have h1 := h a (List.mem_cons_self ..)
      have h2 := ih fun s hs => h s (List.mem_cons_of_mem _ hs)
      show a.weight + wsum l ≤ 1000000 * (l.length + 1)
      omega
  have h1 := h ss S.wts
  have h2 := S.len
  omega
theorem ok_given {f : Addr} {fd : FuncData} (F : Fun K "given_by_weight" "given_by_weight" s_given f fd) (B : TB K C) (T : Bt mg)
    (D_filled_by : Def P w K mg base "filled_by" 2 ["bearers", "units"] (spFill C)) (D_room_of : Def P w K mg base "room_of" 1 ["bearers"] (spRoom C))
    (D_total_weight : Def P w K mg base "total_weight" 1 ["bearers"] (spWeight C)) (D_give_one_by_one : Def P w K mg base "give_one_by_one" 3 ["bearers", "given", "units"] (spGive C)) :
    FnOk P w K mg base CX0 4 f fd ["bearers", "units"] (spGiven C) := by
  refine F.ok sc_given (fun vs H Q E h => ?_) (fun cdv A outer s H vs Q E hr h => ?_)
  · obtain ⟨l, zs, n, rfl, _⟩ := h
    rfl
  · obtain ⟨l, zs, n, rfl, L, S, R, pos, hroom, hn, k⟩ := h
    have hu := hu_of hr
    have hzl : zs.length ≤ 12 := by have := S.len; rwa [List.length_map] at this
    refine ⟨_, (pss_cons (ps_set (i := 2) sc_given.nd rfl (Or.inr rfl) pe_dnewK)
      (pss_cons (ps_set (i := 3) sc_given.nd rfl (Or.inl rfl) (pv 0))
      (pss_cons (ps_set (i := 4) sc_given.nd rfl (Or.inl rfl) (pv 1))
      (pss_cons (ps_set (i := 5) sc_given.nd rfl (Or.inl rfl) (pe_def D_filled_by (hr.mono (by decide)) (pa_cons (pv 3) (pa_cons (pv 4) pa_nil))))
      (pss_cons (ps_while PassesOwn.never (pt_cmpR op_gt (pe_callB call_len_seq rfl T.b_len PySem.boot_len (pa_cons (pv 5) pa_nil)) pe_int (nomark _)) (pss_cons (ps_for PassesOwn.never rfl (pi_list (pv 5)) (pg_name (i := 6) sc_given.nd rfl (Or.inl rfl)) (pss_one (ps_dput hu (pv 2) (pe_f (pv 6) rfl) (pe_f (pv 6) rfl) rfl)))
      (pss_cons (ps_set (i := 4) sc_given.nd rfl (Or.inl rfl) (pe_op op_sub (pv 4) (pe_def D_room_of (hr.mono (by decide)) (pa_cons (pv 5) pa_nil))))
      (pss_cons (ps_setLc (i := 3) rfl sc_given.nd rfl rfl (sw_true rfl rfl rfl rfl) (pi_list (pv 3)) (blkOk_by (own := [("bearer", 6)]) rfl) (fun _ _ _ _ _ => pg_name (i := 6) sc_given.nd rfl (Or.inl rfl)) (fun _ _ _ _ _ => (pts_one (pt_cmp (pc_dnotin hu (pe_f (pv 6) rfl) (pv 2))))) (fun _ _ _ _ _ => (pv 6)))
      (pss_one (ps_set (i := 5) sc_given.nd rfl (Or.inl rfl) (pe_def D_filled_by (hr.mono (by decide)) (pa_cons (pv 3) (pa_cons (pv 4) pa_nil)))))))))
      (pss_cons (ps_set (i := 7) sc_given.nd rfl (Or.inl rfl) (pe_def D_total_weight (hr.mono (by decide)) (pa_cons (pv 3) pa_nil)))
      (pss_cons (ps_for PassesOwn.never rfl (pi_list (pv 3)) (pg_name (i := 6) sc_given.nd rfl (Or.inl rfl)) (pss_one (ps_dput hu (pv 2) (pe_f (pv 6) rfl) (pe_op op_fdiv (pe_op op_mul (pv 4) (pe_f (pv 6) rfl)) (pv 7)) rfl)))
      (pss_cons (ps_expr (pe_def D_give_one_by_one (hr.mono (by decide)) (pa_cons (pv 3) (pa_cons (pv 2) (pa_cons (pe_op op_sub (pv 4) (pe_callB (cr_sum rfl) rfl T.b_sum boot_sum (pa_cons (pe_lc rfl sc_given.nd (pi_list (pv 3)) (blkOk_by (own := [("bearer", 6)]) rfl) (fun _ _ _ _ _ => pg_name (i := 6) sc_given.nd rfl (Or.inl rfl)) (fun _ _ _ _ _ => pts_nil) (fun _ _ _ _ _ => (pe_dget hu (pv 2) (pe_f (pv 6) rfl) (fun _ _ => rfl)))) pa_nil))) pa_nil)))))
      (pss_one (ps_ret (pv 2))))))))))), ?_⟩
    refine fun d hd => ⟨_, rfl, _, rfl, _, rfl, _, rfl, l, zs, n, rfl, L.same (Same.new hd), S, hn, fun H2 fl s2 F2 => ?_⟩
    have s12 : Same H H2 := (Same.new hd).trans s2
    have e0 : zs.filter (fun z => !(fun _ : VSlot => false) z.2) = zs := filt_true zs
    refine ⟨fun m σ H' => ∃ (wl fl : Addr) (p : VSlot → Bool) (left : Nat) (kvs : List (Key × V)) (bv : Option V), σ = [some (.ref l), some (.int (n : Nat)), some (.ref d), some (.ref wl), some (.int (left : Nat)), some (.ref fl), bv, none] ∧
      FillInv C H H' d zs n wl fl p left kvs ∧ m = (zs.filter fun z => !p z.2).length, ⟨_, l, fl, fun _ => false, n, [], none, rfl, ⟨s12, s2 _ _ upd_same, by rw [e0]; exact L.same s12, by rw [e0]; exact F2, by rw [e0]; exact filling_start hroom, fun _ _ q => (nomatch q), fun _ _ _ => rfl, KeysIn.nil⟩, rfl⟩, ?_⟩
    rintro m σ H3 ⟨wl, fl, p, left, kvs, bv, rfl, ⟨but, dict, wait, full, fil, yes, no, keys⟩, rfl⟩
    generalize hwz : zs.filter (fun z => !p z.2) = wz at wait full fil ⊢
    have subW : ∀ z ∈ wz, z ∈ zs ∧ p z.2 = false := fun z hz => by
      rw [← hwz] at hz
      have := List.mem_filter.mp hz
      exact ⟨this.1, by simpa using this.2⟩
    have inW : ∀ z ∈ zs, p z.2 = false → z ∈ wz := fun z hz q => by
      rw [← hwz]
      exact List.mem_filter.mpr ⟨hz, by rw [q]; rfl⟩
    have SW : Sm (sl wz) := by rw [← hwz]; exact S.filter _
    have hwl : wz.length ≤ 12 := by have := SW.len; rwa [List.length_map] at this
    have hleft : left < 2 ^ 62 := by have := fil.esum; omega
    have hk12 : ∀ {kv : List (Key × V)}, KeysIn kv (sl zs) → kv.length < sizeLine := fun h => small12 (by have := h.len; rw [List.length_map] at this; omega)
    refine ⟨_, rfl, fl, _, rfl, .inl full.sq, _, _, rfl, rfl, _, rfl, ite2 (fun h => ?_) fun h => ?_⟩
    · -- a turn
      generalize hfz : wz.filter (isFull (sl wz) left) = fz at full h
      have subF : ∀ z ∈ fz, z ∈ wz := fun z hz => by
        rw [← hfz] at hz
        exact (List.mem_filter.mp hz).1
      have efz : sl fz = fulls (sl wz) left := by rw [← hfz]; exact sl_filter wz fun s => decide (s.cap * wsum (sl wz) ≤ left * s.weight)
      have hfl : fz.length ≤ 12 := by rw [← hfz]; exact Nat.le_trans (List.length_filter_le _ _) hwl
      have hne : fulls (sl wz) left ≠ [] := by
        rw [← efz]
        intro e
        have := of_decide_eq_true h
        rw [List.length_map] at this
        have e2 : fz.length = 0 := by have := congrArg List.length e; rwa [List.length_map] at this
        omega
      obtain ⟨F', hle, hlt⟩ := fil.turn pos hne
      generalize hq : (fun s : VSlot => decide (s.cap * wsum (sl wz) ≤ left * s.weight)) = q
      have hqs : ∀ s : VSlot, decide (s.cap * wsum (sl wz) ≤ left * s.weight) = q s := fun s => by rw [← hq]
      refine ⟨_, fun _ _ z => z, ?_⟩
      refine ⟨_, rfl, fl, rfl, ⟨_, full.sq⟩, for_list (K := K) (a := fl) (xs := fz.map fun z => V.ref z.1) (fun i σ H2 => ∃ (kvs2 : List (Key × V)) (bv : Option V), σ = [some (.ref l), some (.int (n : Nat)), some (.ref d), some (.ref wl), some (.int (left : Nat)), some (.ref fl), bv, none] ∧ SameBut d H3 H2 ∧ H2 d = some (.dK kvs2) ∧
        (∀ s ∈ sl zs, (p s = true ∨ ∃ z ∈ fz.take i, z.2.key = s.key) → valV kvs2 (Sum.inl (s.key : Int)) = some (.int (s.cap : Nat))) ∧ (∀ s ∈ sl zs, p s = false → (∀ z ∈ fz.take i, z.2.key ≠ s.key) → valV kvs2 (Sum.inl (s.key : Int)) = none) ∧ KeysIn kvs2 (sl zs))
        ⟨kvs, bv, rfl, SameBut.refl, dict, fun s hs z => z.elim (yes s hs) fun ⟨z, hz, _⟩ => absurd hz (by simp), fun s hs z _ => no s hs z, keys⟩ (fun i σ H2 _ ⟨_, _, _, sb, _⟩ => (full.but sb dict).sq) ?_ ?_⟩
      · rintro i y σ H2 hi ⟨kvs2, bv2, rfl, sb, hd2, yes2, no2, keys2⟩
        obtain ⟨z, hz, rfl⟩ := map_at hi
        have mf : z ∈ fz := List.mem_of_getElem? hz
        have ms : z.2 ∈ sl zs := List.mem_map.mpr ⟨z, (subW z (subF z mf)).1, rfl⟩
        obtain ⟨dx, e⟩ := (full.but sb dict).at_ z mf
        refine ⟨_, rfl, z.1, C, dx, _, _, rfl, e, B.cl, B.nM, bF_most _, _, rfl, _, rfl, z.1, C, dx, _, _, rfl, e, B.cl, B.nK, bF_key _, d, _, rfl, DPut.k (k := Sum.inl (z.2.key : Int)) hd2 (hk12 keys2), ?_⟩
        refine ⟨_, _, rfl, sb.trans SameBut.upd, upd_same, fun s hs c => ?_, fun s hs q1 q2 => ?_, keys2.put ms _⟩
        · rw [valV_put]
          by_cases qk : s.key = z.2.key
          · rw [if_pos (by rw [qk]), key_inj R.nodup hs ms qk]
          · rw [if_neg (inl_ne qk)]
            refine yes2 s hs ?_
            rcases c with c | ⟨z', hz', e'⟩
            · exact .inl c
            · rw [take_snoc hz] at hz'
              rcases List.mem_append.mp hz' with m | m
              · exact .inr ⟨z', m, e'⟩
              · rw [List.mem_singleton.mp m] at e'
                exact absurd e'.symm qk
        · rw [valV_put, if_neg (inl_ne fun e' => q2 z (by rw [take_snoc hz]; simp) e'.symm)]
          exact no2 s hs q1 fun z' hz' => q2 z' (by rw [take_snoc hz]; exact List.mem_append.mpr (.inl hz'))
      · rintro σ H2 ⟨kvs2, bv2, rfl, sb, hd2, yes2, no2, keys2⟩
        rw [List.length_map, List.take_length] at yes2 no2
        have yes3 : ∀ s ∈ sl zs, (p s || q s) = true → valV kvs2 (Sum.inl (s.key : Int)) = some (.int (s.cap : Nat)) := fun s hs c => by
          refine yes2 s hs ?_
          cases e : p s with
          | true => exact .inl rfl
          | false =>
            rw [e, Bool.false_or] at c
            obtain ⟨z, mz, rfl⟩ := List.mem_map.mp hs
            refine .inr ⟨z, ?_, rfl⟩
            rw [← hfz]
            exact List.mem_filter.mpr ⟨inW z mz e, by rw [← hqs] at c; exact c⟩
        have no3 : ∀ s ∈ sl zs, (p s || q s) = false → valV kvs2 (Sum.inl (s.key : Int)) = none := fun s hs c => by
          rw [Bool.or_eq_false_iff] at c
          refine no2 s hs c.1 fun z mz e => ?_
          have mz2 := mz
          rw [← hfz] at mz2
          have hf := (List.mem_filter.mp mz2).2
          have := key_inj R.nodup (List.mem_map.mpr ⟨z, (subW z (subF z mz)).1, rfl⟩) hs e
          have hf : decide (z.2.cap * wsum (sl wz) ≤ left * z.2.weight) = true := hf
          rw [hqs, this, c.2] at hf
          exact nomatch hf
        have wait2 := wait.but sb dict
        have full2 := full.but sb dict
        refine ⟨_, rfl, _, rfl, fl, fz, rfl, full2, hfl, fun H4 s4 => ⟨_, _, rfl, rfl, ?_⟩⟩
        have wait4 := wait2.same s4
        have eleft : ((left : Nat) : Int) - ((Vbchah.room (sl fz) : Nat) : Int) = ((left - Vbchah.room (fulls (sl wz) left) : Nat) : Int) := by
          rw [efz]
          omega
        dsimp only
        rw [eleft]
        refine ⟨_, rfl, wl, rfl, ⟨_, wait4.sq⟩, fun D hD => lc_pure (fun z : Addr × VSlot => V.ref z.1) (fun z => !(p z.2 || q z.2)) (fun z => V.ref z.1) hD wait4.sq (small12 hwl) (fun z hz H' s5 Q0 q0 => ?_) (fun z hz _ H' s5 Q0 q0 => ⟨_, rfl, q0 _ (Same.refl _)⟩) fun H5 s5 hDH => ?_⟩
        · obtain ⟨dx, e⟩ := wait4.at_ z hz
          have ms : z.2 ∈ sl zs := List.mem_map.mpr ⟨z, (subW z hz).1, rfl⟩
          refine ⟨_, rfl, z.1, C, dx, _, _, rfl, s5 _ _ e, B.cl, B.nK, bF_key _, _, rfl, d, _, rfl, DGet.k (k := Sum.inl (z.2.key : Int)) (s5 _ _ (s4 _ _ hd2)), _, rfl, ?_⟩
          have eo : (valV kvs2 (Sum.inl (z.2.key : Int))).isSome = (p z.2 || q z.2) := by
            cases c : (p z.2 || q z.2) with
            | true => rw [yes3 _ ms c]; rfl
            | false => rw [no3 _ ms c]; rfl
          rw [eo]
          exact q0
        · have e5 : wz.filter (fun z => !(p z.2 || q z.2)) = zs.filter fun z => !(p z.2 || q z.2) := by rw [← hwz]; exact filter_not_or p q
          have wait5 : BL C H5 D (zs.filter fun z => !(p z.2 || q z.2)) := by
            rw [← e5]
            exact ⟨hDH, fun z hz => (wait4.at_ z (List.mem_filter.mp hz).1).keep (Same.keep s5)⟩
          have F'' : Filling (sl zs) n (fun s => p s || q s) (sl (zs.filter fun z => !(p z.2 || q z.2))) (left - Vbchah.room (fulls (sl wz) left)) := by
            have e6 : sl (zs.filter fun z => !(p z.2 || q z.2)) = rests (sl wz) left := by
              rw [F'.ewt, sl_filter zs fun s => !(p s || q s)]
              congr 1
              funext s
              rw [hqs]
            try dsimp only
            rw [e6]
            have e7 : (fun s => p s || decide (s.cap * wsum (sl wz) ≤ left * s.weight)) = fun s => p s || q s := by
              funext s
              rw [hqs]
            rw [← e7]
            exact F'
          have hl6 : (zs.filter fun z => !(p z.2 || q z.2)).length < wz.length := by
            have e8 : (sl (zs.filter fun z => !(p z.2 || q z.2))).length = (rests (sl wz) left).length := by
              rw [sl_filter zs fun s => !(p s || q s), F'.ewt]
              congr 2
              funext s
              rw [hqs]
            rw [List.length_map] at e8
            rw [List.length_map] at hlt
            omega
          refine ⟨_, rfl, _, rfl, D, _, left - Vbchah.room (fulls (sl wz) left), rfl, wait5, S.filter _, by omega, fun H6 fl2 s6 F6 => ?_⟩
          have but6 : Same H H6 := fun b o e => s6 _ _ (s5 _ _ (s4 _ _ (sb b o (but b o e) (ne_of_none e hd))))
          exact ⟨_, hl6, D, fl2, fun s => p s || q s, _, kvs2, _, rfl, ⟨but6, s6 _ _ (s5 _ _ (s4 _ _ hd2)), wait5.same s6, F6, F'', yes3, no3, keys2⟩, rfl⟩
    · -- nobody is filled any more
      have hno : fulls (sl wz) left = [] := by
        have e : sl (wz.filter (isFull (sl wz) left)) = fulls (sl wz) left := sl_filter wz fun s => decide (s.cap * wsum (sl wz) ≤ left * s.weight)
        rw [← e]
        have h0 : ¬ 0 < (((wz.filter (isFull (sl wz) left)).map fun z => V.ref z.1).length : Int) := fun z => h (decide_eq_true z)
        rw [List.length_map] at h0
        have : wz.filter (isFull (sl wz) left) = [] := List.length_eq_zero_iff.mp (by omega)
        rw [this]
        rfl
      refine ⟨_, rfl, wl, wz, rfl, wait, hwl, fun H4 s4 => ?_⟩
      have wait4 := wait.same s4
      have d4 := s4 _ _ dict
      have hW := wsum_small SW
      generalize hx : byKey (sl zs) (fun s => if p s = true then s.cap else left * s.weight / wsum (sl wz)) = x
      have xat : ∀ s ∈ sl zs, x s.key = if p s = true then s.cap else left * s.weight / wsum (sl wz) := fun s hs => by
        rw [← hx]
        exact byKey_at R s hs
      refine ⟨_, rfl, wl, rfl, ⟨_, wait4.sq⟩, for_list (K := K) (a := wl) (xs := wz.map fun z => V.ref z.1) (fun i σ H2 => ∃ (kvs2 : List (Key × V)) (bv : Option V), σ = [some (.ref l), some (.int (n : Nat)), some (.ref d), some (.ref wl), some (.int (left : Nat)), some (.ref fl), bv, some (.int (wsum (sl wz) : Nat))] ∧ SameBut d H4 H2 ∧ H2 d = some (.dK kvs2) ∧
        (∀ s ∈ sl zs, (p s = true ∨ ∃ z ∈ wz.take i, z.2.key = s.key) → valV kvs2 (Sum.inl (s.key : Int)) = some (.int (x s.key : Nat))) ∧ KeysIn kvs2 (sl zs))
        ⟨kvs, bv, rfl, SameBut.refl, d4, fun s hs z => z.elim (fun c => by rw [yes s hs c, xat s hs, if_pos c]) fun ⟨z, hz, _⟩ => absurd hz (by simp), keys⟩ (fun i σ H2 _ ⟨_, _, _, sb, _⟩ => (wait4.but sb d4).sq) ?_ ?_⟩
      · rintro i y σ H2 hi ⟨kvs2, bv2, rfl, sb, hd2, yes2, keys2⟩
        obtain ⟨z, hz, rfl⟩ := map_at hi
        have mw : z ∈ wz := List.mem_of_getElem? hz
        have ms : z.2 ∈ sl zs := List.mem_map.mpr ⟨z, (subW z mw).1, rfl⟩
        obtain ⟨dx, e⟩ := (wait4.but sb d4).at_ z mw
        have hWp : 0 < wsum (sl wz) := wsum_pos (fun s hs => by
          obtain ⟨z', mz', rfl⟩ := List.mem_map.mp hs
          exact pos _ (List.mem_map.mpr ⟨z', (subW z' mz').1, rfl⟩)) fun e0 => by
            have : z.2 ∈ sl wz := List.mem_map.mpr ⟨z, mw, rfl⟩
            rw [e0] at this
            exact absurd this List.not_mem_nil
        refine ⟨_, rfl, _, rfl, z.1, C, dx, _, _, rfl, e, B.cl, B.nW, bF_weight _, _, _, rfl, rfl, .inl ⟨by omega, by omega⟩, _, rfl, _, _, rfl, rfl, ⟨by omega, by omega⟩, ?_⟩
        refine ⟨_, rfl, _, rfl, z.1, C, dx, _, _, rfl, e, B.cl, B.nK, bF_key _, d, _, rfl, DPut.k (k := Sum.inl (z.2.key : Int)) hd2 (hk12 keys2), ?_⟩
        refine ⟨_, _, rfl, sb.trans SameBut.upd, upd_same, fun s hs c => ?_, keys2.put ms _⟩
        rw [valV_put]
        by_cases qk : s.key = z.2.key
        · have es := key_inj R.nodup hs ms qk
          subst es
          rw [if_pos rfl, xat _ ms, if_neg (by rw [(subW z mw).2]; exact Bool.false_ne_true)]
          try dsimp only
          rw [← Int.natCast_mul, ← Int.natCast_ediv]
        · rw [if_neg (inl_ne qk)]
          refine yes2 s hs ?_
          rcases c with c | ⟨z', hz', e'⟩
          · exact .inl c
          · rw [take_snoc hz] at hz'
            rcases List.mem_append.mp hz' with m | m
            · exact .inr ⟨z', m, e'⟩
            · rw [List.mem_singleton.mp m] at e'
              exact absurd e'.symm qk
      · rintro σ H2 ⟨kvs2, bv2, rfl, sb, hd2, yes2, keys2⟩
        rw [List.length_map, List.take_length] at yes2
        have tab2 : Tab kvs2 (sl zs) x := ⟨fun s hs => by
          refine yes2 s hs ?_
          cases c : p s with
          | true => exact .inl rfl
          | false =>
            obtain ⟨z, mz, rfl⟩ := List.mem_map.mp hs
            exact .inr ⟨z, inW z mz c, rfl⟩⟩
        have wait2 := wait4.but sb d4
        obtain ⟨r, er, hru, Rt⟩ := fil.ends pos hno xat
        refine ⟨_, rfl, _, rfl, _, rfl, _, rfl, wl, rfl, ⟨_, wait2.sq⟩, fun D hD => lc_pure (fun z : Addr × VSlot => V.ref z.1) (fun _ => true) (fun z => .int (x z.2.key : Nat)) hD wait2.sq (small12 hwl) (fun _ _ _ _ _ z => z) (fun z hz _ H' s5 Q0 q0 => ?_) fun H5 s5 hDH => ?_⟩
        · obtain ⟨dx, e⟩ := wait2.at_ z hz
          exact ⟨_, rfl, _, rfl, z.1, C, dx, _, _, rfl, s5 _ _ e, B.cl, B.nK, bF_key _, d, _, rfl, dget_of (s5 _ _ hd2) (tab2.at_ _ (List.mem_map.mpr ⟨z, (subW z hz).1, rfl⟩)), q0 _ (Same.refl _)⟩
        · refine ⟨D, wz.map fun z => ((x z.2.key : Nat) : Int), rfl, SqL.of (by rw [hDH, filt_true, List.map_map]; rfl), _, _, rfl, rfl, ?_⟩
          have esum : ((left : Nat) : Int) - (wz.map fun z => ((x z.2.key : Nat) : Int)).sum = ((r : Nat) : Int) := by
            rw [sum_int (fun z : Addr × VSlot => x z.2.key)]
            have e9 : Vbchah.sum ((sl wz).map fun s => x s.key) = Vbchah.sum (wz.map fun z => x z.2.key) := by rw [List.map_map]; rfl
            rw [e9] at er
            generalize Vbchah.sum (wz.map fun z => x z.2.key) = q at er ⊢
            omega
          dsimp only
          rw [esum]
          have GR : Good (sl zs) := ⟨R.nodup, pos, fun s hs => by have := S.caps s hs; omega⟩
          refine ⟨wl, d, wz, kvs2, sl zs, x, n - r, r, rfl, wait2.same s5, s5 _ _ hd2, tab2, Rt, fun s hs => ?_, ⟨R, GR, S.caps, ?_, fun s hs => ?_, by omega, by omega, S.len⟩, keys2, fun H6 kvs6 x6 sb6 hd6 tab6 R6 keys6 => ?_⟩
          · cases c : p s with
            | false =>
              obtain ⟨z, mz, rfl⟩ := List.mem_map.mp hs
              exact .inl (List.mem_map.mpr ⟨z, inW z mz c, rfl⟩)
            | true =>
              refine .inr ?_
              rw [xat s hs, if_pos c]
              exact Nat.lt_irrefl _
          · rw [← hwz]
            exact R.sublist (List.Sublist.map _ List.filter_sublist)
          · obtain ⟨z, mz, rfl⟩ := List.mem_map.mp hs
            exact List.mem_map.mpr ⟨z, (subW z mz).1, rfl⟩
          · have en : n - r + r = n := by omega
            rw [en] at R6
            refine ⟨_, rfl, k H6 d kvs6 ?_ hd hd6 (fun s hs => by rw [tab6.at_ s hs, R6.portion GR hs]) keys6⟩
            · intro b o e
              have nb : b ≠ d := ne_of_none e hd
              exact sb6 b o (s5 _ _ (sb b o (s4 _ _ (but b o e)) nb)) nb
end
end U
end
section
set_option linter.all false
set_option Elab.async false
set_option linter.all false
set_option maxRecDepth 100000
set_option maxHeartbeats 2000000
namespace U
open PySem PySem.Spec PyProof.Rows L2 L3 Lb
theorem valV_merge (k : Key) : ∀ (more kvs : List (Key × V)), (more.map (·.1)).Nodup → valV (mergeK kvs more) k = (match valV more k with | some v => some v | none => valV kvs k)
  | [], kvs, _ => rfl
  | p :: r, kvs, h => by
    have h : (p.1 :: r.map (·.1)).Nodup := h
    obtain ⟨h1, h2⟩ := List.nodup_cons.mp h
    show valV (mergeK (putK kvs p.1 p.2) r) k = _
    rw [valV_merge k r _ h2, valV_put]
    by_cases e : p.1 = k
    · rw [valV_pos e]
      have : valV r k = none := by
        cases q : valV r k with
        | none => rfl
        | some v => exact absurd (valV_in q) (by rw [← e]; exact h1)
      rw [this, if_pos e.symm]
    · rw [valV_neg e, if_neg (fun q => e q.symm)]
theorem mergeK_new : ∀ (more kvs : List (Key × V)), ((kvs ++ more).map (·.1)).Nodup → mergeK kvs more = kvs ++ more
  | [], kvs, _ => (List.append_nil _).symm
  | p :: r, kvs, h => by
    show mergeK (putK kvs p.1 p.2) r = _
    have hp : valV kvs p.1 = none := by
      cases q : valV kvs p.1 with
      | none => rfl
      | some v =>
        rw [List.map_append, List.map_cons] at h
        exact absurd rfl ((List.nodup_append.mp h).2.2 p.1 (valV_in q) p.1 (List.mem_cons_self ..))
    rw [putK_new p.2 hp, mergeK_new r _ (by rw [List.append_assoc]; exact h), List.append_assoc]
    rfl
section
variable {P : Program} {w : World} {K : PySem.W.Frag} {mg : Str → Option Value} {base : Heap} {C : Addr}
theorem paired_bears {H : Hp} {g : Addr × VSlot → VSlot} : ∀ {zs : List (Addr × VSlot)} {ys : List V}, Paired (fun z y => ∃ a, y = V.ref a ∧ BearAt C H a (g z)) zs ys → ∃ zs2 : List (Addr × VSlot), ys = zs2.map (fun z => V.ref z.1) ∧ (∀ z ∈ zs2, BearAt C H z.1 z.2) ∧ sl zs2 = zs.map g
  | _, _, .nil => ⟨[], rfl, fun _ h => absurd h List.not_mem_nil, rfl⟩
  | x :: _, _, .cons r t => by
    obtain ⟨a, e, b⟩ := r
    obtain ⟨zs2, e1, e2, e3⟩ := paired_bears t
    refine ⟨(a, g x) :: zs2, by rw [List.map_cons, e, e1], fun z hz => ?_, by rw [List.map_cons (f := g), ← e3]; rfl⟩
    rcases List.mem_cons.mp hz with rfl | hz
    · exact b
    · exact e2 z hz
abbrev s_weighted_of : Stmt := top 21
def spWeighted (C : Addr) : Sp := fun vs H Q _ => ∃ (l : Addr) (zs : List (Addr × VSlot)), vs = [.ref l] ∧ BL C H l zs ∧ zs.length ≤ 12 ∧
  ∀ H' p, Same H H' → BL C H' p (zs.filter fun z => z.2.weight != 0) → Q (.ref p) H'
theorem sc_weighted_of : FnScope ["bearers", "bearer"] ["bearers"] (defScope s_weighted_of) := ⟨rfl, rfl, rfl, by decide +kernel, rfl, by decide +kernel, by decide +kernel⟩
theorem ok_weighted_of {f : Addr} {fd : FuncData} (F : Fun K "weighted_of" "weighted_of" s_weighted_of f fd) (B : TB K C) : FnOk P w K mg base CX0 1 f fd ["bearers"] (spWeighted C) := by
  refine F.ok sc_weighted_of (fun vs H Q E h => ?_) (fun cdv A outer s H vs Q E hr h => ?_)
  · obtain ⟨l, zs, rfl, _⟩ := h
    rfl
  · obtain ⟨l, zs, rfl, L, hzl, k⟩ := h
    refine ⟨_, (pss_one (ps_ret (pe_lc rfl sc_weighted_of.nd (pi_list (pv 0)) (blkOk_by (own := [("bearer", 1)]) rfl) (fun _ _ _ _ _ => pg_name (i := 1) sc_weighted_of.nd rfl (Or.inl rfl)) (fun _ _ _ _ _ => (pts_one (pt_cmpR op_gt (pe_f (pv 1) rfl) pe_int (nomark _)))) (fun _ _ _ _ _ => (pv 1))))), ?_⟩
    refine ⟨_, rfl, l, rfl, ⟨_, L.sq⟩, fun D hD => lc_pure (fun z : Addr × VSlot => V.ref z.1) (fun z => z.2.weight != 0) (fun z => V.ref z.1) hD L.sq (small12 hzl) (fun z hz H' s5 Q0 q0 => ?_) (fun z hz _ H' s5 Q0 q0 => ⟨_, rfl, q0 _ (Same.refl _)⟩) fun H1 s1 hD1 => ?_⟩
    · obtain ⟨dx, e⟩ := L.at_ z hz
      refine ⟨_, rfl, z.1, C, dx, _, _, rfl, s5 _ _ e, B.cl, B.nW, bF_weight _, _, _, rfl, rfl, _, rfl, ?_⟩
      have ed : decide ((0 : Int) < ((z.2.weight : Nat) : Int)) = (z.2.weight != 0) := by
        rw [Bool.eq_iff_iff, decide_eq_true_iff, bne_iff_ne]
        omega
      rw [ed]
      exact q0
    · exact k H1 D s1 ⟨hD1, fun z hz => (L.at_ z (List.mem_filter.mp hz).1).keep (Same.keep s1)⟩
abbrev s_with_weight_1 : Stmt := top 23
def spOne (C : Addr) : Sp := fun vs H Q _ => ∃ (a : Addr) (s : VSlot), vs = [.ref a] ∧ BearAt C H a s ∧ ∀ H' x, Same H H' → BearAt C H' x (asOne s) → Q (.ref x) H'
theorem sc_with_weight_1 : FnScope ["bearer"] ["bearer"] (defScope s_with_weight_1) := ⟨rfl, rfl, rfl, by decide +kernel, rfl, by decide +kernel, by decide +kernel⟩
theorem ok_with_weight_1 {f : Addr} {fd : FuncData} (F : Fun K "with_weight_1" "with_weight_1" s_with_weight_1 f fd) (B : TB K C) (N_Bearer : New P w K mg base "Bearer" C 1 ["self", "key", "weight", "most"] (spInitB C)) :
    FnOk P w K mg base CX0 3 f fd ["bearer"] (spOne C) := by
  refine F.ok sc_with_weight_1 (fun vs H Q E h => ?_) (fun cdv A outer s H vs Q E hr h => ?_)
  · obtain ⟨a, s, rfl, _⟩ := h
    rfl
  · obtain ⟨a, s, rfl, ⟨dx, e⟩, k⟩ := h
    refine ⟨_, (pss_one (ps_ret (pe_new N_Bearer (hr.mono (by decide)) (pa_cons (pe_f (pv 0) rfl) (pa_cons pe_int (pa_cons (pe_f (pv 0) rfl) pa_nil)))))), ?_⟩
    refine ⟨_, rfl, a, C, dx, _, _, rfl, e, B.cl, B.nK, bF_key _, _, rfl, a, C, dx, _, _, rfl, e, B.cl, B.nM, bF_most _, ?_⟩
    exact new_bear (s := asOne s) fun x H4 s4 b => k H4 x s4 b
abbrev s_weightless_of : Stmt := top 22
def spWeightless (C : Addr) : Sp := fun vs H Q _ => ∃ (l : Addr) (zs : List (Addr × VSlot)), vs = [.ref l] ∧ BL C H l zs ∧ zs.length ≤ 12 ∧
  ∀ H' p zs2, Same H H' → BL C H' p zs2 → sl zs2 = Vbchah.light (sl zs) → Q (.ref p) H'
theorem sc_weightless_of : FnScope ["bearers", "bearer"] ["bearers"] (defScope s_weightless_of) := ⟨rfl, rfl, rfl, by decide +kernel, rfl, by decide +kernel, by decide +kernel⟩
theorem ok_weightless_of {f : Addr} {fd : FuncData} (F : Fun K "weightless_of" "weightless_of" s_weightless_of f fd) (B : TB K C) (D_with_weight_1 : Def P w K mg base "with_weight_1" 3 ["bearer"] (spOne C)) :
    FnOk P w K mg base CX0 4 f fd ["bearers"] (spWeightless C) := by
  refine F.ok sc_weightless_of (fun vs H Q E h => ?_) (fun cdv A outer s H vs Q E hr h => ?_)
  · obtain ⟨l, zs, rfl, _⟩ := h
    rfl
  · obtain ⟨l, zs, rfl, L, hzl, k⟩ := h
    refine ⟨_, (pss_one (ps_ret (pe_lc rfl sc_weightless_of.nd (pi_list (pv 0)) (blkOk_by (own := [("bearer", 1)]) rfl) (fun _ _ _ _ _ => pg_name (i := 1) sc_weightless_of.nd rfl (Or.inl rfl)) (fun _ _ _ _ _ => (pts_one (pt_cmpR op_eq (pe_f (pv 1) rfl) pe_int (nomark _)))) (fun _ _ _ _ _ => (pe_def D_with_weight_1 (hr.mono (by decide)) (pa_cons (pv 1) pa_nil)))))), ?_⟩
    refine ⟨_, rfl, l, rfl, ⟨_, L.sq⟩, fun D2 hD2 => lc_mk (fun z : Addr × VSlot => V.ref z.1) (fun z => z.2.weight == 0) (fun z y H => ∃ a, y = V.ref a ∧ BearAt C H a (asOne z.2)) hD2 L.sq (small12 hzl) (fun z y H H' kp ⟨a, e, b⟩ => ⟨a, e, b.keep kp⟩) (fun z hz H' s5 Q0 q0 => ?_) (fun z hz _ H' s5 Q0 q0 => ?_) fun H2 ys s2 hDD pr => ?_⟩
    · obtain ⟨dx, e⟩ := L.at_ z hz
      refine ⟨_, rfl, z.1, C, dx, _, _, rfl, s5 _ _ e, B.cl, B.nW, bF_weight _, rfl, _, rfl, ?_⟩
      have ed : decide (V.int ((z.2.weight : Nat) : Int) = V.int 0) = (z.2.weight == 0) := by
        rw [dec_nat (b := 0) (c := 0) rfl]
        exact Bool.beq_eq_decide_eq .. |>.symm
      rw [ed]
      exact q0
    · exact ⟨_, rfl, z.1, z.2, rfl, (L.at_ z hz).keep (Same.keep s5), fun H4 x s4 b => q0 _ _ s4 ⟨x, rfl, b⟩⟩
    · obtain ⟨zs2, ey, b2, esl2⟩ := paired_bears (g := fun z => asOne z.2) pr
      subst ey
      refine k H2 D2 zs2 s2 ⟨hDD, b2⟩ ?_
      rw [esl2, light_eq, List.filter_map, List.map_map]
      rfl
abbrev s_shares : Stmt := top 20
def shareKV (ss : List VSlot) (n : Nat) : List (Key × V) := ss.map fun s => (Sum.inl (s.key : Int), .int (Vbchah.shareOf ss n s : Nat))
def spShares (C : Addr) : Sp := fun vs H Q _ => ∃ (l : Addr) (zs : List (Addr × VSlot)) (n : Nat), vs = [.ref l, .int (n : Nat)] ∧ BL C H l zs ∧ Sm (sl zs) ∧ Fine (sl zs) ∧ n ≤ Vbchah.room (sl zs) ∧ n < 2 ^ 62 ∧
  ∀ H' d, Same H H' → H d = none → H' d = some (.dK (shareKV (sl zs) n)) → Q (.ref d) H'
theorem sc_shares : FnScope ["bearers", "units", "weighted", "by_weight", "given", "bearer"] ["bearers", "units"] (defScope s_shares) := ⟨rfl, rfl, rfl, by decide +kernel, rfl, by decide +kernel, by decide +kernel⟩
theorem ok_shares {f : Addr} {fd : FuncData} (F : Fun K "shares_after" "shares_after" s_shares f fd) (B : TB K C) (T : Bt mg)
    (D_weighted_of : Def P w K mg base "weighted_of" 1 ["bearers"] (spWeighted C)) (D_weightless_of : Def P w K mg base "weightless_of" 4 ["bearers"] (spWeightless C)) (D_room_of : Def P w K mg base "room_of" 1 ["bearers"] (spRoom C))
    (D_given_by_weight : Def P w K mg base "given_by_weight" 4 ["bearers", "units"] (spGiven C)) :
    FnOk P w K mg base CX0 5 f fd ["bearers", "units"] (spShares C) := by
  refine F.ok sc_shares (fun vs H Q E h => ?_) (fun cdv A outer s H vs Q E hr h => ?_)
  · obtain ⟨l, zs, n, rfl, _⟩ := h
    rfl
  · obtain ⟨l, zs, n, rfl, L, S, G, hroom, hn, k⟩ := h
    have hu := hu_of hr
    have hzl : zs.length ≤ 12 := by have := S.len; rwa [List.length_map] at this
    refine ⟨_, (pss_cons (ps_set (i := 2) sc_shares.nd rfl (Or.inl rfl) (pe_def D_weighted_of (hr.mono (by decide)) (pa_cons (pv 0) pa_nil)))
      (pss_cons (ps_set (i := 3) sc_shares.nd rfl (Or.inl rfl) (pe_callB (call_min2 rfl) rfl T.b_min boot_min (pa_cons (pv 1) (pa_cons (pe_def D_room_of (hr.mono (by decide)) (pa_cons (pv 2) pa_nil)) pa_nil))))
      (pss_cons (ps_set (i := 4) sc_shares.nd rfl (Or.inr rfl) (pe_def D_given_by_weight (hr.mono (by decide)) (pa_cons (pv 2) (pa_cons (pv 3) pa_nil))))
      (pss_cons (ps_expr (pe_bm PySem.F.plainAttrs_dict PySem.F.slot_dict_update PySem.F.type_dict_update mt_update (pv 4) (pa_cons (pe_def D_given_by_weight (hr.mono (by decide)) (pa_cons (pe_def D_weightless_of (hr.mono (by decide)) (pa_cons (pv 0) pa_nil)) (pa_cons (pe_op op_sub (pv 1) (pv 3)) pa_nil))) pa_nil)))
      (pss_one (ps_ret (pe_callTy (call_dictP rfl) rfl T.b_dict boot_dict (pa_cons (pe_lc rfl sc_shares.nd (pi_list (pv 0)) (blkOk_by (own := [("bearer", 5)]) rfl) (fun _ _ _ _ _ => pg_name (i := 5) sc_shares.nd rfl (Or.inl rfl)) (fun _ _ _ _ _ => pts_nil) (fun _ _ _ _ _ => (pe_tup (pa_cons (pe_f (pv 5) rfl) (pa_cons (pe_dget hu (pv 4) (pe_f (pv 5) rfl) (fun _ _ => rfl)) pa_nil))))) pa_nil)))))))), ?_⟩
    refine ⟨_, rfl, l, zs, rfl, L, hzl, fun H2 D s2 hv2 => ?_⟩
    have ehv : sl (zs.filter fun z => z.2.weight != 0) = Vbchah.heavy (sl zs) := sl_filter zs fun s => s.weight != 0
    have hhl : (zs.filter fun z => z.2.weight != 0).length ≤ 12 := Nat.le_trans (List.length_filter_le _ _) hzl
    refine ⟨_, rfl, _, rfl, D, _, rfl, hv2, hhl, fun H3 s3 => ⟨_, _, rfl, ?_⟩⟩
    rw [ehv]
    generalize hbw : min n (Vbchah.room (Vbchah.heavy (sl zs))) = bw
    have ebw : (if ((Vbchah.room (Vbchah.heavy (sl zs)) : Nat) : Int) < ((n : Nat) : Int) then ((Vbchah.room (Vbchah.heavy (sl zs)) : Nat) : Int) else ((n : Nat) : Int)) = ((bw : Nat) : Int) := by
      split <;> omega
    try dsimp only
    rw [ebw]
    have hparts := room_parts (sl zs)
    have SH : Sm (sl (zs.filter fun z => z.2.weight != 0)) := S.filter _
    have hv3 := hv2.same s3
    have L3 := (L.same s2).same s3
    refine ⟨_, rfl, _, rfl, D, _, bw, rfl, hv3, SH, by rw [ehv]; exact G.heavyR, by rw [ehv]; exact G.heavyG.pos, by rw [ehv]; omega, by omega, fun H4 d1 kv1 s4 n1 hd1 g1 k1 => ?_⟩
    rw [ehv] at g1 k1
    have L4 := L3.same s4
    refine ⟨_, rfl, .inr (.inr (.inl ⟨rfl, .inl ⟨_, hd1⟩⟩)), _, rfl, l, zs, rfl, L4, hzl, fun H4' D2 zs2 s4' lt4 elt => ?_⟩
    have hl2 : zs2.length ≤ 12 := by
      have e := congrArg List.length elt
      rw [List.length_map, light_eq, List.length_map] at e
      try dsimp only
      rw [e]
      exact Nat.le_trans (List.length_filter_le _ _) (by rw [List.length_map]; exact hzl)
    have SL : Sm (sl zs2) := by
      rw [elt]
      refine ⟨by rw [← elt, List.length_map]; exact hl2, fun t ht => ?_, fun t ht => ?_⟩
      · obtain ⟨s, hs, _, rfl⟩ := mem_light.mp ht
        exact S.caps s hs
      · obtain ⟨s, hs, _, rfl⟩ := mem_light.mp ht
        show 1 ≤ 1000000
        decide
    refine ⟨_, rfl, _, rfl, _, _, rfl, rfl, ?_⟩
    have esub : ((n : Nat) : Int) - ((bw : Nat) : Int) = ((n - Vbchah.room (Vbchah.heavy (sl zs)) : Nat) : Int) := by omega
    try dsimp only
    rw [esub]
    refine ⟨D2, zs2, n - Vbchah.room (Vbchah.heavy (sl zs)), rfl, lt4, SL, by rw [elt]; exact G.lightR, by rw [elt]; exact G.lightG.pos, by rw [elt]; omega, by omega, fun H5 d2 kv2 s5 n2 hd2 g2 k2 => ?_⟩
    rw [elt] at g2 k2
    have hd15 := s5 _ _ (s4' _ _ hd1)
    have hne : d1 ≠ d2 := ne_of_none (s4' _ _ hd1) n2
    have len1 : kv1.length ≤ 12 := Nat.le_trans k1.len (by rw [← ehv, List.length_map]; exact hhl)
    have len2 : kv2.length ≤ 12 := Nat.le_trans k2.len (by rw [← elt, List.length_map]; exact hl2)
    refine ⟨d1, d2, kv1, kv2, rfl, rfl, hd15, hd2, hne, Nat.le_of_lt (Nat.lt_of_le_of_lt (Nat.add_le_add len1 len2) (by decide)), ?_⟩
    have look : ∀ s ∈ sl zs, valV (mergeK kv1 kv2) (Sum.inl (s.key : Int)) = some (.int (Vbchah.shareOf (sl zs) n s : Nat)) := fun s hs => by
      rw [valV_merge _ _ _ k2.nd]
      unfold Vbchah.shareOf
      by_cases h0 : s.weight = 0
      · rw [if_pos h0]
        have := g2 (asOne s) (mem_light.mpr ⟨s, hs, h0, rfl⟩)
        have this : valV kv2 (Sum.inl (s.key : Int)) = _ := this
        rw [this]
        rfl
      · rw [if_neg h0]
        have hn2 : valV kv2 (Sum.inl (s.key : Int)) = none := k2.none_of fun t ht q => by
          obtain ⟨s', hs', h0', rfl⟩ := mem_light.mp ht
          have e : s.key = s'.key := by have := Sum.inl.inj q; have q2 : ((s.key : Nat) : Int) = ((s'.key : Nat) : Int) := this; omega
          have := key_inj G.rising.nodup hs hs' e
          rw [this] at h0
          exact h0 h0'
        rw [hn2]
        have := g1 s (mem_heavy.mpr ⟨hs, h0⟩)
        show valV kv1 _ = _
        rw [this, ← hbw, portion_clip]
    have sUp : Same H (upd H5 d1 (.dK (mergeK kv1 kv2))) := fun b o e => by
      have e3 := s3 _ _ (s2 _ _ e)
      rw [upd_ne (ne_of_none e3 n1)]
      exact s5 _ _ (s4' _ _ (s4 _ _ e3))
    have L5 := L.same sUp
    refine ⟨_, rfl, l, rfl, ⟨_, L5.sq⟩, fun D3 hD3 => lc_mk (fun z : Addr × VSlot => V.ref z.1) (fun _ => true) (fun z y H => ∃ a, y = V.ref a ∧ H a = some (.tup [.int (z.2.key : Nat), .int (Vbchah.shareOf (sl zs) n z.2 : Nat)])) hD3 L5.sq (small12 hzl) (fun z y H H' kp ⟨a, e, b⟩ => ⟨a, e, kp _ _ b (fun _ q => (nomatch q))⟩) (fun _ _ _ _ _ q => q) (fun z hz _ H' s6 Q0 q0 => ?_) fun H6 ys s6 hD6 pr => ?_⟩
    · obtain ⟨dx, e⟩ := L5.at_ z hz
      refine ⟨_, rfl, z.1, C, dx, _, _, rfl, s6 _ _ e, B.cl, B.nK, bF_key _, _, rfl, _, rfl, z.1, C, dx, _, _, rfl, s6 _ _ e, B.cl, B.nK, bF_key _, d1, _, rfl, dget_of (s6 _ _ upd_same) (look _ (List.mem_map.mpr ⟨z, hz, rfl⟩)), (by show 2 ≤ sizeLine; decide), fun t ht => ?_⟩
      exact q0 _ _ (Same.new ht) ⟨t, rfl, upd_same⟩
    rw [filt_true] at pr
    have conv : ∀ {zl : List (Addr × VSlot)} {yl : List V}, Paired (fun z y => ∃ a, y = V.ref a ∧ H6 a = some (.tup [.int (z.2.key : Nat), .int (Vbchah.shareOf (sl zs) n z.2 : Nat)])) zl yl →
        ∃ ps : List Addr, yl = ps.map V.ref ∧ Paired (fun p kv => SqT K H6 p [kV kv.1, kv.2]) ps (zl.map fun z => ((Sum.inl (z.2.key : Int) : Key), V.int (Vbchah.shareOf (sl zs) n z.2 : Nat))) := fun {zl yl} r => by
      induction r with
      | nil => exact ⟨[], rfl, .nil⟩
      | cons q _ ih =>
        obtain ⟨a, e, b⟩ := q
        obtain ⟨ps, e1, e2⟩ := ih
        exact ⟨a :: ps, by rw [List.map_cons, e, e1], by rw [List.map_cons]; exact .cons (SqT.of b) e2⟩
    obtain ⟨ps, eps, hps⟩ := conv pr
    subst eps
    refine ⟨D3, ps, _, rfl, SqL.of hD6, hps, fun d hd => ?_⟩
    have ekv : (zs.map fun z => ((Sum.inl (z.2.key : Int) : Key), V.int (Vbchah.shareOf (sl zs) n z.2 : Nat))) = shareKV (sl zs) n := by
      unfold shareKV
      rw [List.map_map]
      rfl
    have hnd : ((shareKV (sl zs) n).map (·.1)).Nodup := by
      unfold shareKV
      rw [List.map_map, List.Nodup, List.pairwise_map]
      exact G.rising.imp fun q e => absurd (Sum.inl.inj e) (by omega)
    have emk : mergeK [] (shareKV (sl zs) n) = shareKV (sl zs) n := mergeK_new _ _ hnd
    rw [ekv, emk]
    have s7 := sUp.trans s6
    exact k _ d (s7.trans (Same.new hd)) (s7.free hd) upd_same
end
end U
end
section
set_option linter.all false
set_option Elab.async false
set_option linter.all false
set_option maxRecDepth 100000
set_option maxHeartbeats 2000000
namespace U
open PySem PySem.Spec PyProof.Rows L2 L3 Lb
section
variable {P : Program} {w : World} {K : PySem.W.Frag} {mg : Str → Option Value} {base : Heap} {C : Addr}
theorem shareKV_find (ss : List VSlot) (n k : Nat) : valV (shareKV ss n) (Sum.inl (k : Int)) = (ss.find? fun s => s.key == k).map fun s => V.int (Vbchah.shareOf ss n s : Nat) := valV_find (fun s : VSlot => s.key) _ ss k
theorem find_key {ss : List VSlot} (R : Rising ss) {s : VSlot} (hs : s ∈ ss) : (ss.find? fun t => t.key == s.key) = some s := by
  cases e : ss.find? fun t => t.key == s.key with
  | none => exact absurd (List.find?_eq_none.mp e s hs) (by simp)
  | some t =>
    have h1 : t.key = s.key := eq_of_beq (List.find?_some (p := fun t : VSlot => t.key == s.key) e)
    rw [key_inj R.nodup (List.mem_of_find?_eq_some e) hs h1]
theorem shareKV_at {ss : List VSlot} (R : Rising ss) {s : VSlot} (hs : s ∈ ss) (n : Nat) : valV (shareKV ss n) (Sum.inl (s.key : Int)) = some (.int (Vbchah.shareOf ss n s : Nat)) := by
  rw [shareKV_find, find_key R hs]
  rfl
theorem dget_frz {H : Hp} {a : Addr} {o : Obj} {kvs : List (Key × V)} {k : Key} {v : V} (e : H a = some (.frz o (.dK kvs))) (hv : valV kvs k = some v) : DGet H a (kV k) (some v) := .inl ⟨kvs, k, .inr ⟨o, e⟩, rfl, hv.symm⟩
def spTaker (C : Addr) : Sp := fun vs H Q _ => ∃ (l : Addr) (zs : List (Addr × VSlot)) (u : Nat), vs = [.ref l, .int (u : Nat)] ∧ BL C H l zs ∧ Sm (sl zs) ∧ Fine (sl zs) ∧ 1 ≤ u ∧ u ≤ Vbchah.room (sl zs) ∧ u < 2 ^ 62 ∧
  ∀ H', Same H H' → Q (.int (Vbchah.unitOf (sl zs) u : Nat)) H'
abbrev s_taker_of : Stmt := top 30
theorem sc_taker_of : FnScope ["bearers", "unit", "before", "after", "key"] ["bearers", "unit"] (defScope s_taker_of) := ⟨rfl, rfl, rfl, by decide +kernel, rfl, by decide +kernel, by decide +kernel⟩
theorem ok_taker_of {f : Addr} {fd : FuncData} (F : Fun K "taker_of" "taker_of" s_taker_of f fd) (B : TB K C) (D_shares_after : Def P w K mg base "shares_after" 5 ["bearers", "units"] (spShares C)) : FnOk P w K mg base CX0 6 f fd ["bearers", "unit"] (spTaker C) := by
  refine F.ok sc_taker_of (fun vs H Q E h => ?_) (fun cdv A outer st H vs Q E hr h => ?_)
  · obtain ⟨l, zs, u, rfl, _⟩ := h
    rfl
  · obtain ⟨l, zs, u, rfl, L, S, G, h1, hroom, hn, k⟩ := h
    have hu := hu_of hr
    have hzl : zs.length ≤ 12 := by have := S.len; rwa [List.length_map] at this
    refine ⟨_, (pss_cons (ps_set (i := 2) sc_taker_of.nd rfl (Or.inr rfl) (pe_def D_shares_after (hr.mono (by decide)) (pa_cons (pv 0) (pa_cons (pe_op op_sub (pv 1) pe_int) pa_nil))))
      (pss_cons (ps_set (i := 3) sc_taker_of.nd rfl (Or.inr rfl) (pe_def D_shares_after (hr.mono (by decide)) (pa_cons (pv 0) (pa_cons (pv 1) pa_nil))))
      (pss_one (ps_ret (pe_ix ix_list (pe_lock (pe_lc rfl sc_taker_of.nd (pi_keys (pv 3)) (blkOk_by (own := [("key", 4)]) rfl) (fun _ _ _ _ _ => pg_name (i := 4) sc_taker_of.nd rfl (Or.inl rfl)) (fun _ _ _ _ _ => (pts_one (pt_cmpR op_ne (pe_dget hu (pv 3) (pv 4) (fun _ _ => rfl)) (pe_dget hu (pv 2) (pv 4) (fun _ _ => rfl)) (nomark _)))) (fun _ _ _ _ _ => (pv 4)))) pe_int (fun _ _ => rfl)))))), ?_⟩
    refine ⟨_, rfl, _, rfl, _, _, rfl, rfl, ?_⟩
    have e1 : ((u : Nat) : Int) - 1 = ((u - 1 : Nat) : Int) := by omega
    try dsimp only
    rw [e1]
    refine ⟨l, zs, u - 1, rfl, L, S, G, by omega, by omega, fun H1 d1 s1 n1 hd1 => ?_⟩
    refine ⟨_, rfl, _, rfl, l, zs, u, rfl, L.same s1, S, G, hroom, hn, fun H2 d2 s2 n2 hd2 => ?_⟩
    have hd12 := s2 _ _ hd1
    have hne : d1 ≠ d2 := ne_of_none hd1 n2
    refine ⟨d2, _, hd2, trivial, fun od => ⟨_, rfl, d2, od, rfl, .inl ⟨_, upd_same, fun D hD => lc_keysP (fun s : VSlot => (s.key : Int)) (zs := sl zs) (fun s => Vbchah.shareOf (sl zs) u s != Vbchah.shareOf (sl zs) (u - 1) s) (fun s => .int (s.key : Nat)) (by unfold shareKV; rw [List.map_map]; rfl) hD upd_same (by rw [List.length_map]; exact small12 hzl) (fun s hs H' s5 Q0 q0 => ?_) (fun s hs _ H' s5 Q0 q0 => ⟨_, rfl, q0 _ (Same.refl _)⟩) fun H3 s3 hD3 => ?_⟩⟩⟩
    · have a2 : H' d2 = some (.frz od (.dK (shareKV (sl zs) u))) := s5 _ _ upd_same
      have a1 : H' d1 = some (.dK (shareKV (sl zs) (u - 1))) := s5 _ _ (by rw [upd_ne hne]; exact hd12)
      refine ⟨_, rfl, _, rfl, d2, _, rfl, dget_frz (k := Sum.inl (s.key : Int)) a2 (shareKV_at G.rising hs u), _, rfl, _, rfl, d1, _, rfl, dget_of a1 (shareKV_at G.rising hs (u - 1)), rfl, _, rfl, ?_⟩
      have ed : (!decide (V.int ((Vbchah.shareOf (sl zs) u s : Nat) : Int) = V.int ((Vbchah.shareOf (sl zs) (u - 1) s : Nat) : Int))) = (Vbchah.shareOf (sl zs) u s != Vbchah.shareOf (sl zs) (u - 1) s) := by
        rw [dec_nat rfl, bne, Bool.beq_eq_decide_eq]
      rw [ed]
      exact q0
    · refine ⟨s3 _ _ upd_same, ?_⟩
      have sU : Same H2 (upd H3 d2 (.dK (shareKV (sl zs) u))) := same_unlock hd2 s3
      obtain ⟨i, hi, ni⟩ := unit_ex G h1 hroom
      have only : (sl zs).filter (fun s => Vbchah.shareOf (sl zs) u s != Vbchah.shareOf (sl zs) (u - 1) s) ≠ [] := fun e => by
        have : i ∈ (sl zs).filter (fun s => Vbchah.shareOf (sl zs) u s != Vbchah.shareOf (sl zs) (u - 1) s) := List.mem_filter.mpr ⟨hi, bne_iff_ne.mpr ni⟩
        rw [e] at this
        exact absurd this List.not_mem_nil
      obtain ⟨j, r, ej⟩ := List.exists_cons_of_ne_nil only
      have mj : j ∈ (sl zs).filter (fun s => Vbchah.shareOf (sl zs) u s != Vbchah.shareOf (sl zs) (u - 1) s) := by rw [ej]; exact List.mem_cons_self ..
      have mj2 := List.mem_filter.mp mj
      have hD4 : (upd H3 d2 (.dK (shareKV (sl zs) u))) D = some (.lst (((sl zs).filter (fun s => Vbchah.shareOf (sl zs) u s != Vbchah.shareOf (sl zs) (u - 1) s)).map fun s => V.int (s.key : Nat))) := by
        rw [upd_ne (ne_of hD3 (s3 _ _ upd_same) (fun z => (nomatch z)))]
        exact hD3
      rw [ej] at hD4
      refine ⟨D, _, 0, .int (j.key : Nat), rfl, rfl, SqL.of hD4, atI_nat (j := 0) rfl, ?_⟩
      rw [← unit_is G h1 hroom mj2.1 (bne_iff_ne.mp mj2.2)]
      exact k _ ((s1.trans s2).trans sU)
abbrev s_units_up_to : Stmt := top 33
theorem sc_units_up_to : FnScope ["other", "bearer", "share", "crosswise"] ["other", "bearer", "share"] (defScope s_units_up_to) := ⟨rfl, rfl, rfl, by decide +kernel, rfl, by decide +kernel, by decide +kernel⟩
def upTo (i : VSlot) (g : Nat) (t : VSlot) : Nat := if t.key ≤ i.key then g * t.weight / i.weight else (g * t.weight - 1) / i.weight
def spUpTo (C : Addr) : Sp := fun vs H Q _ => ∃ (a b : Addr) (t i : VSlot) (g : Nat), vs = [.ref a, .ref b, .int (g : Nat)] ∧ BearAt C H a t ∧ BearAt C H b i ∧ 0 < t.weight ∧ 0 < i.weight ∧ i.weight ≤ 1000000 ∧ 1 ≤ g ∧ g < 2 ^ 62 ∧
  Q (.int (upTo i g t : Nat)) H
theorem ok_units_up_to {f : Addr} {fd : FuncData} (F : Fun K "units_up_to" "units_up_to" s_units_up_to f fd) (B : TB K C) : FnOk P w K mg base CX0 1 f fd ["other", "bearer", "share"] (spUpTo C) := by
  refine F.ok sc_units_up_to (fun vs H Q E h => ?_) (fun cdv A outer st H vs Q E hr h => ?_)
  · obtain ⟨a, b, t, i, g, rfl, _⟩ := h
    rfl
  · obtain ⟨a, b, t, i, g, rfl, ⟨dx, ha⟩, ⟨dy, hb⟩, tp, ip, iw, g1, g2, k⟩ := h
    refine ⟨_, (pss_cons (ps_set (i := 3) sc_units_up_to.nd rfl (Or.inl rfl) (pe_op op_mul (pv 2) (pe_f (pv 0) rfl)))
      (pss_cons (ps_if (pt_cmpR op_gt (pe_f (pv 0) rfl) (pe_f (pv 1) rfl) (nomark _)) (pss_one (ps_set (i := 3) sc_units_up_to.nd rfl (Or.inl rfl) (pe_op op_sub (pv 3) pe_int))) pss_nil)
      (pss_one (ps_ret (pe_op op_fdiv (pv 3) (pe_f (pv 1) rfl)))))), ?_⟩
    refine ⟨_, rfl, _, rfl, a, C, dx, _, _, rfl, ha, B.cl, B.nW, bF_weight _, _, _, rfl, rfl, .inl ⟨by omega, by omega⟩, ?_⟩
    refine ⟨_, rfl, a, C, dx, _, _, rfl, ha, B.cl, B.nK, bF_key _, _, rfl, b, C, dy, _, _, rfl, hb, B.cl, B.nK, bF_key _, _, _, rfl, rfl, _, rfl, ?_⟩
    have hpos : 1 ≤ g * t.weight := Nat.mul_pos g1 tp
    unfold upTo at k
    refine ite2 (fun h => ?_) fun h => ?_
    · have h := of_decide_eq_true h
      rw [if_neg (by omega)] at k
      refine ⟨_, rfl, _, _, rfl, rfl, _, rfl, _, rfl, b, C, dy, _, _, rfl, hb, B.cl, B.nW, bF_weight _, _, _, rfl, rfl, ⟨by omega, by omega⟩, ?_⟩
      have e : ((g : Nat) : Int) * ((t.weight : Nat) : Int) - 1 = ((g * t.weight - 1 : Nat) : Int) := by
        try dsimp only
        rw [← Int.natCast_mul]
        omega
      try dsimp only
      rw [e, ← Int.natCast_ediv]
      exact k
    · have h : ¬ (i.key : Int) < t.key := fun z => h (decide_eq_true z)
      rw [if_pos (by omega)] at k
      refine ⟨_, rfl, _, rfl, b, C, dy, _, _, rfl, hb, B.cl, B.nW, bF_weight _, _, _, rfl, rfl, ⟨by omega, by omega⟩, ?_⟩
      try dsimp only
      rw [← Int.natCast_mul, ← Int.natCast_ediv]
      exact k
abbrev s_place_by_weight : Stmt := top 32
theorem sc_place_by_weight : FnScope ["bearers", "bearer", "share", "other"] ["bearers", "bearer", "share"] (defScope s_place_by_weight) := ⟨rfl, rfl, rfl, by decide +kernel, rfl, by decide +kernel, by decide +kernel⟩
def spPlaceW (C : Addr) : Sp := fun vs H Q _ => ∃ (l b : Addr) (zs : List (Addr × VSlot)) (i : VSlot) (g : Nat), vs = [.ref l, .ref b, .int (g : Nat)] ∧ BL C H l zs ∧ zs.length ≤ 12 ∧ (∀ s ∈ sl zs, 0 < s.weight) ∧ BearAt C H b i ∧ 0 < i.weight ∧ i.weight ≤ 1000000 ∧ 1 ≤ g ∧ g < 2 ^ 62 ∧
  ∀ H', Same H H' → Q (.int (Vbchah.rank (sl zs) i g : Nat)) H'
theorem ok_place_by_weight {f : Addr} {fd : FuncData} (F : Fun K "place_by_weight" "place_by_weight" s_place_by_weight f fd) (T : TB K C) (B : Bt mg) (D_units_up_to : Def P w K mg base "units_up_to" 1 ["other", "bearer", "share"] (spUpTo C)) : FnOk P w K mg base CX0 2 f fd ["bearers", "bearer", "share"] (spPlaceW C) := by
  refine F.ok sc_place_by_weight (fun vs H Q E h => ?_) (fun cdv A outer st H vs Q E hr h => ?_)
  · obtain ⟨l, b, zs, i, g, rfl, _⟩ := h
    rfl
  · obtain ⟨l, b, zs, i, g, rfl, L, hzl, pos, hb, ip, iw, g1, g2, k⟩ := h
    refine ⟨_, (pss_one (ps_ret (pe_callB (cr_sum rfl) rfl B.b_sum boot_sum (pa_cons (pe_lc rfl sc_place_by_weight.nd (pi_list (pv 0)) (blkOk_by (own := [("other", 3)]) rfl) (fun _ _ _ _ _ => pg_name (i := 3) sc_place_by_weight.nd rfl (Or.inl rfl)) (fun _ _ _ _ _ => pts_nil) (fun _ _ _ _ _ => (pe_callB (call_min2 rfl) rfl B.b_min boot_min (pa_cons (pe_f (pv 3) rfl) (pa_cons (pe_def D_units_up_to (hr.mono (by decide)) (pa_cons (pv 3) (pa_cons (pv 1) (pa_cons (pv 2) pa_nil)))) pa_nil))))) pa_nil)))), ?_⟩
    refine ⟨_, rfl, l, rfl, ⟨_, L.sq⟩, fun D hD => lc_pure (fun z : Addr × VSlot => V.ref z.1) (fun _ => true) (fun z => .int (Vbchah.ahead i g z.2 : Nat)) hD L.sq (small12 hzl) (fun _ _ _ _ _ q => q) (fun z hz _ H' s Q q => ?_) fun H' s hDH => ?_⟩
    · obtain ⟨dx, e⟩ := L.at_ z hz
      refine ⟨_, rfl, z.1, C, dx, _, _, rfl, s _ _ e, T.cl, T.nM, bF_most _, _, rfl, _, rfl, _, rfl, z.1, b, z.2, i, g, rfl, ⟨dx, s _ _ e⟩, hb.keep (Same.keep s), pos _ (List.mem_map.mpr ⟨z, hz, rfl⟩), ip, iw, g1, g2, _, _, rfl, ?_⟩
      have em : (if ((upTo i g z.2 : Nat) : Int) < ((z.2.cap : Nat) : Int) then ((upTo i g z.2 : Nat) : Int) else ((z.2.cap : Nat) : Int)) = ((Vbchah.ahead i g z.2 : Nat) : Int) := by
        unfold Vbchah.ahead
        show _ = ((min z.2.cap (upTo i g z.2) : Nat) : Int)
        split <;> omega
      rw [em]
      exact q _ (Same.refl _)
    · refine ⟨D, zs.map fun z => ((Vbchah.ahead i g z.2 : Nat) : Int), rfl, SqL.of ?_, ?_⟩
      · rw [hDH, filt_true, List.map_map]
        rfl
      · rw [sum_int fun z : Addr × VSlot => Vbchah.ahead i g z.2]
        have e : Vbchah.sum (zs.map fun z => Vbchah.ahead i g z.2) = Vbchah.rank (sl zs) i g := by
          unfold Vbchah.rank
          rw [if_neg (by omega), List.map_map]
          rfl
        try dsimp only
        rw [e]
        exact k H' s
abbrev s_place_of : Stmt := top 31
theorem sc_place_of : FnScope ["bearers", "bearer", "share", "weighted"] ["bearers", "bearer", "share"] (defScope s_place_of) := ⟨rfl, rfl, rfl, by decide +kernel, rfl, by decide +kernel, by decide +kernel⟩
def spPlace (C : Addr) : Sp := fun vs H Q _ => ∃ (l b : Addr) (zs : List (Addr × VSlot)) (i : VSlot) (g : Nat), vs = [.ref l, .ref b, .int (g : Nat)] ∧ BL C H l zs ∧ zs.length ≤ 12 ∧ BearAt C H b i ∧ i.weight ≤ 1000000 ∧ 1 ≤ g ∧ g < 2 ^ 62 ∧
  ∀ H', Same H H' → Q (.int (Vbchah.untilOf (sl zs) i g : Nat)) H'
theorem ok_place_of {f : Addr} {fd : FuncData} (F : Fun K "place_of" "place_of" s_place_of f fd) (B : TB K C) (D_weighted_of : Def P w K mg base "weighted_of" 1 ["bearers"] (spWeighted C)) (D_weightless_of : Def P w K mg base "weightless_of" 4 ["bearers"] (spWeightless C)) (D_with_weight_1 : Def P w K mg base "with_weight_1" 3 ["bearer"] (spOne C)) (D_room_of : Def P w K mg base "room_of" 1 ["bearers"] (spRoom C)) (D_place_by_weight : Def P w K mg base "place_by_weight" 2 ["bearers", "bearer", "share"] (spPlaceW C)) : FnOk P w K mg base CX0 5 f fd ["bearers", "bearer", "share"] (spPlace C) := by
  refine F.ok sc_place_of (fun vs H Q E h => ?_) (fun cdv A outer st H vs Q E hr h => ?_)
  · obtain ⟨l, b, zs, i, g, rfl, _⟩ := h
    rfl
  · obtain ⟨l, b, zs, i, g, rfl, L, hzl, ⟨dx, hb⟩, iw, g1, g2, k⟩ := h
    refine ⟨_, (pss_cons (ps_set (i := 3) sc_place_of.nd rfl (Or.inl rfl) (pe_def D_weighted_of (hr.mono (by decide)) (pa_cons (pv 0) pa_nil)))
      (pss_cons (ps_if (pt_cmpR op_gt (pe_f (pv 1) rfl) pe_int (nomark _)) (pss_one (ps_ret (pe_def D_place_by_weight (hr.mono (by decide)) (pa_cons (pv 3) (pa_cons (pv 1) (pa_cons (pv 2) pa_nil)))))) pss_nil)
      (pss_one (ps_ret (pe_op op_add (pe_def D_room_of (hr.mono (by decide)) (pa_cons (pv 3) pa_nil)) (pe_def D_place_by_weight (hr.mono (by decide)) (pa_cons (pe_def D_weightless_of (hr.mono (by decide)) (pa_cons (pv 0) pa_nil)) (pa_cons (pe_def D_with_weight_1 (hr.mono (by decide)) (pa_cons (pv 1) pa_nil)) (pa_cons (pv 2) pa_nil))))))))), ?_⟩
    refine ⟨_, rfl, l, zs, rfl, L, hzl, fun H1 p s1 L1 => ?_⟩
    have ehv : sl (zs.filter fun z => z.2.weight != 0) = Vbchah.heavy (sl zs) := sl_filter zs fun s => s.weight != 0
    have hhl : (zs.filter fun z => z.2.weight != 0).length ≤ 12 := Nat.le_trans (List.length_filter_le _ _) hzl
    have hb1 := s1 _ _ hb
    refine ⟨_, rfl, b, C, dx, _, _, rfl, hb1, B.cl, B.nW, bF_weight _, _, _, rfl, rfl, _, rfl, ?_⟩
    unfold Vbchah.untilOf at k
    refine ite2 (fun h => ?_) fun h => ?_
    · have h := of_decide_eq_true h
      rw [if_neg (by omega)] at k
      refine ⟨_, rfl, _, rfl, _, rfl, p, b, _, i, g, rfl, L1, hhl, fun s hs => ?_, ⟨dx, hb1⟩, by omega, iw, g1, g2, fun H2 s2 => ?_⟩
      · rw [ehv] at hs
        exact Nat.pos_of_ne_zero (mem_heavy.mp hs).2
      · rw [ehv]
        exact k H2 (s1.trans s2)
    · have h : ¬ (0 : Int) < i.weight := fun z => h (decide_eq_true z)
      rw [if_pos (by omega)] at k
      refine ⟨_, rfl, p, _, rfl, L1, hhl, fun H2 s2 => ⟨_, rfl, l, zs, rfl, (L.same s1).same s2, hzl, fun H3 q zs2 s3 L3 e3 => ?_⟩⟩
      have hl2 : zs2.length ≤ 12 := by
        have e := congrArg List.length e3
        rw [List.length_map, light_eq, List.length_map] at e
        try dsimp only
        rw [e]
        exact Nat.le_trans (List.length_filter_le _ _) (by rw [List.length_map]; exact hzl)
      refine ⟨_, rfl, b, i, rfl, ⟨dx, s3 _ _ (s2 _ _ hb1)⟩, fun H4 x s4 hx => ⟨_, rfl, q, x, zs2, asOne i, g, rfl, L3.same s4, hl2, fun s hs => ?_, hx, (by decide : 0 < 1), (by decide : 1 ≤ 1000000), g1, g2, fun H5 s5 => ⟨_, _, rfl, rfl, ?_⟩⟩⟩
      · rw [e3] at hs
        obtain ⟨t, _, _, rfl⟩ := mem_light.mp hs
        exact (by decide : 0 < 1)
      · rw [e3, ehv]
        dsimp only
        rw [← Int.natCast_add]
        exact k H5 ((((s1.trans s2).trans s3).trans s4).trans s5)
end
end U
end
section
set_option linter.all false
set_option Elab.async false
set_option linter.all false
set_option maxRecDepth 100000
set_option maxHeartbeats 2000000
namespace U
open PySem PySem.Spec PyProof.Rows L2 L3 Lb
def mF (m : VMem) : List (Str × V) := [("key", .int m.key), ("margin", .int m.margin), ("fund", .int m.fund), ("gain", .int m.gain), ("weight", .int m.weight)]
theorem mF_key (m : VMem) : (mF m).lookup ("key" : Str) = some (.int m.key) := rfl
theorem mF_margin (m : VMem) : (mF m).lookup ("margin" : Str) = some (.int m.margin) := rfl
theorem mF_fund (m : VMem) : (mF m).lookup ("fund" : Str) = some (.int m.fund) := rfl
theorem mF_gain (m : VMem) : (mF m).lookup ("gain" : Str) = some (.int m.gain) := rfl
theorem mF_weight (m : VMem) : (mF m).lookup ("weight" : Str) = some (.int m.weight) := rfl
def MemAt (C : Addr) (H : Hp) (a : Addr) (m : VMem) : Prop := ∃ dx, H a = some (.ins C dx (mF m))
theorem MemAt.keep {C : Addr} {H H' : Hp} {a : Addr} {m : VMem} (k : Keep H H') (b : MemAt C H a m) : MemAt C H' a m := by
  obtain ⟨dx, e⟩ := b
  exact ⟨dx, k _ _ e (fun _ z => (nomatch z))⟩
def hF (md : Addr) (s : VSt) (dv : V) (ls : Int) : List (Str × V) := [("members", .ref md), ("first", .int s.first), ("last", .int s.last), ("multiple", .int s.multiple), ("called", .int s.called), ("unpaid", .int s.unpaid), ("defaulter", dv), ("loss", .int ls)]
theorem hF_members (md : Addr) (s : VSt) (dv : V) (ls : Int) : (hF md s dv ls).lookup ("members" : Str) = some (.ref md) := rfl
theorem hF_first (md : Addr) (s : VSt) (dv : V) (ls : Int) : (hF md s dv ls).lookup ("first" : Str) = some (.int s.first) := rfl
theorem hF_last (md : Addr) (s : VSt) (dv : V) (ls : Int) : (hF md s dv ls).lookup ("last" : Str) = some (.int s.last) := rfl
theorem hF_multiple (md : Addr) (s : VSt) (dv : V) (ls : Int) : (hF md s dv ls).lookup ("multiple" : Str) = some (.int s.multiple) := rfl
theorem hF_called (md : Addr) (s : VSt) (dv : V) (ls : Int) : (hF md s dv ls).lookup ("called" : Str) = some (.int s.called) := rfl
theorem hF_unpaid (md : Addr) (s : VSt) (dv : V) (ls : Int) : (hF md s dv ls).lookup ("unpaid" : Str) = some (.int s.unpaid) := rfl
theorem hF_def (md : Addr) (s : VSt) (dv : V) (ls : Int) : (hF md s dv ls).lookup ("defaulter" : Str) = some dv := rfl
theorem hF_loss (md : Addr) (s : VSt) (dv : V) (ls : Int) : (hF md s dv ls).lookup ("loss" : Str) = some (.int ls) := rfl
abbrev memKV (ms : List (Addr × VMem)) : List (Key × V) := ms.map fun q => (Sum.inl (q.2.key : Int), V.ref q.1)
structure HouseAt (CH CM : Addr) (H : Hp) (h : Addr) (s : VSt) (md : Addr) (ms : List (Addr × VMem)) (dv : V) (ls : Int) : Prop where
  obj : ∃ dx, H h = some (.ins CH dx (hF md s dv ls))
  dict : H md = some (.dK (memKV ms))
  mems : ∀ q ∈ ms, MemAt CM H q.1 q.2
  nd : (ms.map (·.1)).Nodup
  perm : (ms.map (·.2)).Perm s.members
  ev0 : s.event = none → dv = .non
  ev1 : ∀ d n, s.event = some (d, n) → ls = (n : Nat) ∧ ∃ q ∈ ms, q.2.key = d ∧ dv = .ref q.1
theorem HouseAt.same {CH CM : Addr} {H H' : Hp} {h : Addr} {s : VSt} {md : Addr} {ms : List (Addr × VMem)} {dv : V} {ls : Int} (k : Same H H') (A : HouseAt CH CM H h s md ms dv ls) : HouseAt CH CM H' h s md ms dv ls :=
  ⟨let ⟨dx, e⟩ := A.obj; ⟨dx, k _ _ e⟩, k _ _ A.dict, fun q hq => (A.mems q hq).keep (Same.keep k), A.nd, A.perm, A.ev0, A.ev1⟩
structure TM (K : PySem.W.Frag) (C : Addr) : Prop where
  cl : Cls K C
  nK : NoAttr K C "key"
  nMa : NoAttr K C "margin"
  nF : NoAttr K C "fund"
  nG : NoAttr K C "gain"
  nW : NoAttr K C "weight"
structure TH (K : PySem.W.Frag) (C : Addr) : Prop where
  cl : Cls K C
  nMe : NoAttr K C "members"
  nF : NoAttr K C "first"
  nL : NoAttr K C "last"
  nMu : NoAttr K C "multiple"
  nC : NoAttr K C "called"
  nU : NoAttr K C "unpaid"
  nD : NoAttr K C "defaulter"
  nLo : NoAttr K C "loss"
theorem perm_lift {α β : Type} {f : α → β} {ms : List α} {l : List β} (h : (ms.map f).Perm l) : ∃ ws : List α, ws.Perm ms ∧ ws.map f = l := by
  generalize e : ms.map f = m at h
  induction h generalizing ms with
  | nil =>
    have : ms = [] := List.map_eq_nil_iff.mp e
    subst this
    exact ⟨[], List.Perm.refl _, rfl⟩
  | @cons x l1 l2 _ ih =>
    match ms, e with
    | a :: ms, e =>
      injection e with e1 e2
      obtain ⟨ws, h1, h2⟩ := ih e2
      exact ⟨a :: ws, h1.cons a, by rw [List.map_cons, e1, h2]⟩
  | @swap x y l =>
    match ms, e with
    | a :: b :: ms, e =>
      injection e with e1 e2
      injection e2 with e2 e3
      exact ⟨b :: a :: ms, List.Perm.swap a b ms, by rw [List.map_cons, List.map_cons, e1, e2, e3]⟩
  | trans _ _ ih1 ih2 =>
    obtain ⟨ws, h1, h2⟩ := ih1 e
    obtain ⟨ws2, h3, h4⟩ := ih2 h2
    exact ⟨ws2, h3.trans h1, h4⟩
theorem valV_mem : ∀ {ms : List (Addr × VMem)}, (ms.map fun q => q.2.key).Nodup → ∀ q ∈ ms, valV (memKV ms) (Sum.inl (q.2.key : Int)) = some (.ref q.1)
  | a :: ms, h, q, hq => by
    have h : (a.2.key :: ms.map fun q => q.2.key).Nodup := h
    obtain ⟨h1, h2⟩ := List.nodup_cons.mp h
    rcases List.mem_cons.mp hq with rfl | hq
    · exact valV_pos rfl
    · show valV ((Sum.inl (a.2.key : Int), V.ref a.1) :: memKV ms) _ = _
      rw [valV_neg (fun e => ?_), valV_mem h2 q hq]
      have e : ((a.2.key : Nat) : Int) = ((q.2.key : Nat) : Int) := Sum.inl.inj e
      exact h1 (List.mem_map.mpr ⟨q, hq, by show q.2.key = a.2.key; omega⟩)
theorem valV_memNone {ms : List (Addr × VMem)} {k : Int} (h : ∀ q ∈ ms, ((q.2.key : Nat) : Int) ≠ k) : valV (memKV ms) (Sum.inl k) = none := by
  cases e : valV (memKV ms) (Sum.inl k) with
  | none => rfl
  | some v =>
    have := valV_in e
    rw [List.map_map] at this
    obtain ⟨q, hq, e2⟩ := List.mem_map.mp this
    exact absurd (Sum.inl.inj e2) (h q hq)
section
variable {CH CM : Addr} {H : Hp} {h : Addr} {s : VSt} {md : Addr} {ms : List (Addr × VMem)} {dv : V} {ls : Int}
theorem HouseAt.keysNd (A : HouseAt CH CM H h s md ms dv ls) (W : Wf s) : (ms.map fun q => q.2.key).Nodup := by
  have h1 : ((ms.map (·.2)).map fun m => m.key).Perm (s.members.map fun m => m.key) := A.perm.map _
  have h2 := h1.nodup_iff.mpr W.rising.nodup
  rw [List.map_map] at h2
  exact h2
theorem HouseAt.len (A : HouseAt CH CM H h s md ms dv ls) (W : Wf s) : ms.length ≤ 12 := by
  have := A.perm.length_eq
  rw [List.length_map] at this
  rw [this]
  exact W.len
theorem HouseAt.mem (A : HouseAt CH CM H h s md ms dv ls) {q : Addr × VMem} (hq : q ∈ ms) : q.2 ∈ s.members := A.perm.subset (List.mem_map.mpr ⟨q, hq, rfl⟩)
end
section
variable {P : Program} {w : World} {K : PySem.W.Frag} {mg : Str → Option Value} {base : Heap} {C CH CM : Addr}
abbrev s_others : Stmt := top 37
def spOthers (CH CM : Addr) : Sp := fun vs H Q _ => ∃ (h : Addr) (s : VSt) (md : Addr) (ms : List (Addr × VMem)) (dv : V) (ls : Int) (d n : Nat), vs = [.ref h] ∧ HouseAt CH CM H h s md ms dv ls ∧ Wf s ∧ s.event = some (d, n) ∧
  ∀ H' p (zs : List (Addr × VMem)), Same H H' → H' p = some (.lst (zs.map fun z : Addr × VMem => V.ref z.1)) → (∀ z ∈ zs, z ∈ ms) → zs.map (·.2) = Vbchah.others s d → Q (.ref p) H'
theorem sc_others : FnScope ["house", "key"] ["house"] (defScope s_others) := ⟨rfl, rfl, rfl, by decide +kernel, rfl, by decide +kernel, by decide +kernel⟩
theorem ok_others {f : Addr} {fd : FuncData} (F : Fun K "other_members" "other_members" s_others f fd) (M : TM K CM) (O : TH K CH) (T : Bt mg) : FnOk P w K mg base CX0 1 f fd ["house"] (spOthers CH CM) := by
  refine F.ok sc_others (fun vs H Q E h => ?_) (fun cdv A outer s H vs Q E hr h => ?_)
  · obtain ⟨h, s, md, ms, dv, ls, d, n, rfl, _⟩ := h
    rfl
  · obtain ⟨h, s, md, ms, dv, ls, d, n, rfl, A, W, ev, k⟩ := h
    have hu := hu_of hr
    refine ⟨_, (pss_one (ps_ret (pe_lc rfl sc_others.nd (pi_list (pe_callB (cr_sortedD rfl) rfl T.b_sorted boot_sorted (pa_cons (pe_f (pv 0) rfl) pa_nil))) (blkOk_by (own := [("key", 1)]) rfl) (fun _ _ _ _ _ => pg_name (i := 1) sc_others.nd rfl (Or.inl rfl)) (fun _ _ _ _ _ => (pts_one (pt_cmpR op_ne (pv 1) (pe_f (pe_f (pv 0) rfl) rfl) (nomark _)))) (fun _ _ _ _ _ => (pe_dget hu (pe_f (pv 0) rfl) (pv 1) (fun _ _ => rfl)))))), ?_⟩
    obtain ⟨dx, ho⟩ := A.obj
    obtain ⟨els, q, mq, ekd, edv⟩ := A.ev1 d n ev
    have hnd := A.keysNd W
    have hlen := A.len W
    obtain ⟨ws, wp, we⟩ := perm_lift A.perm
    refine ⟨_, rfl, h, CH, dx, _, _, rfl, ho, O.cl, O.nMe, hF_members _ _ _ _, md, _, ms.map fun q => ((q.2.key : Nat) : Int), rfl, A.dict, (by rw [List.map_map, List.map_map]; rfl), (by rw [List.length_map]; omega), fun ns' p hp hpw hpn => ?_⟩
    have ens : ns' = ws.map fun q => ((q.2.key : Nat) : Int) := by
      refine List.Perm.eq_of_pairwise (le := (· ≤ ·)) (fun a b _ _ h1 h2 => Int.le_antisymm h1 h2) hpw ?_ (hp.trans (wp.map fun q : Addr × VMem => ((q.2.key : Nat) : Int)).symm)
      have : (ws.map fun q => ((q.2.key : Nat) : Int)) = s.members.map fun m => ((m.key : Nat) : Int) := by rw [← we, List.map_map]; rfl
      rw [this, List.pairwise_map]
      exact W.rising.imp fun z => by omega
    subst ens
    have s1 : Same H (upd H p (.lst ((ws.map fun q => ((q.2.key : Nat) : Int)).map V.int))) := Same.new hpn
    have A1 := A.same s1
    have hS : SqL K (upd H p (.lst ((ws.map fun q => ((q.2.key : Nat) : Int)).map V.int))) p (ws.map fun q => V.int ((q.2.key : Nat) : Int)) := by
      refine SqL.of ?_
      rw [upd_same, List.map_map]
      rfl
    have hwl : ws.length ≤ 12 := by rw [wp.length_eq]; exact hlen
    refine ⟨p, rfl, ⟨_, hS⟩, fun D hD => lc_pure (fun q : Addr × VMem => V.int ((q.2.key : Nat) : Int)) (fun q => q.2.key != d) (fun q => V.ref q.1) hD hS (small12 hwl) (fun z hz H' s5 Q0 q0 => ?_) (fun z hz _ H' s5 Q0 q0 => ?_) fun H' s5 hDH => ?_⟩
    · obtain ⟨dq, hq⟩ := A1.mems q mq
      subst edv
      refine ⟨_, rfl, _, rfl, h, CH, dx, _, _, rfl, s5 _ _ (s1 _ _ ho), O.cl, O.nD, hF_def _ _ _ _, q.1, CM, dq, _, _, rfl, s5 _ _ hq, M.cl, M.nK, mF_key _, rfl, _, rfl, ?_⟩
      have ed : (!decide (V.int ((z.2.key : Nat) : Int) = V.int ((q.2.key : Nat) : Int))) = (z.2.key != d) := by
        rw [ekd, bne, Bool.eq_iff_iff, Bool.not_eq_true', Bool.not_eq_true', decide_eq_false_iff_not, beq_eq_false_iff_ne]
        constructor
        · intro z1 z2
          exact z1 (by rw [z2])
        · intro z1 z2
          injection z2 with z2
          exact z1 (by omega)
      rw [ed]
      exact q0
    · have mz : z ∈ ms := wp.subset hz
      exact ⟨_, rfl, h, CH, dx, _, _, rfl, s5 _ _ (s1 _ _ ho), O.cl, O.nMe, hF_members _ _ _ _, _, rfl, md, _, rfl, dget_of (s5 _ _ A1.dict) (valV_mem hnd z mz), q0 _ (Same.refl _)⟩
    · refine k H' D _ (s1.trans s5) hDH (fun z hz => wp.subset (List.mem_filter.mp hz).1) ?_
      unfold Vbchah.others
      rw [← we, List.filter_map]
      rfl
abbrev s_most : Stmt := top 39
def mostOf (s : VSt) (k : Nat) (m : VMem) : Nat := if k = 4 then m.fund else if k = 5 then s.multiple * m.fund else m.gain
def spMost (CH CM : Addr) : Sp := fun vs H Q _ => ∃ (h a : Addr) (k : Nat) (m : VMem) (s : VSt) (md : Addr) (ms : List (Addr × VMem)) (dv : V) (ls : Int), vs = [.ref h, .int (k : Nat), .ref a] ∧ HouseAt CH CM H h s md ms dv ls ∧ MemAt CM H a m ∧ s.multiple ≤ 10 ∧ Q (.int (mostOf s k m : Nat)) H
theorem sc_most : FnScope ["house", "k", "member"] ["house", "k", "member"] (defScope s_most) := ⟨rfl, rfl, rfl, by decide +kernel, rfl, by decide +kernel, by decide +kernel⟩
theorem ok_most {f : Addr} {fd : FuncData} (F : Fun K "most_of_member" "most_of_member" s_most f fd) (M : TM K CM) (O : TH K CH) : FnOk P w K mg base CX0 1 f fd ["house", "k", "member"] (spMost CH CM) := by
  refine F.ok sc_most (fun vs H Q E h => ?_) (fun cdv A outer s H vs Q E hr h => ?_)
  · obtain ⟨h, a, k, m, s, md, ms, dv, ls, rfl, _⟩ := h
    rfl
  · obtain ⟨h, a, k, m, s, md, ms, dv, ls, rfl, A, ⟨dm, hm⟩, h10, q⟩ := h
    obtain ⟨dx, ho⟩ := A.obj
    refine ⟨_, (pss_cons (ps_if (pt_cmpR op_eq (pv 1) pe_int (nomark _)) (pss_one (ps_ret (pe_f (pv 2) rfl))) pss_nil)
      (pss_cons (ps_if (pt_cmpR op_eq (pv 1) pe_int (nomark _)) (pss_one (ps_ret (pe_op op_mul (pe_f (pv 0) rfl) (pe_f (pv 2) rfl)))) pss_nil)
      (pss_one (ps_ret (pe_f (pv 2) rfl))))), ?_⟩
    unfold mostOf at q
    refine ⟨_, rfl, rfl, _, rfl, ?_⟩
    rw [dec_nat (b := 4) (c := 4) rfl]
    refine ite2 (fun z => ?_) fun z => ?_
    · rw [if_pos (of_decide_eq_true z)] at q
      exact ⟨_, rfl, a, CM, dm, _, _, rfl, hm, M.cl, M.nF, mF_fund _, q⟩
    · rw [if_neg (fun y => z (decide_eq_true y))] at q
      refine ⟨_, rfl, rfl, _, rfl, ?_⟩
      rw [dec_nat (b := 5) (c := 5) rfl]
      refine ite2 (fun z => ?_) fun z => ?_
      · rw [if_pos (of_decide_eq_true z)] at q
        refine ⟨_, rfl, h, CH, dx, _, _, rfl, ho, O.cl, O.nMu, hF_multiple _ _ _ _, _, rfl, a, CM, dm, _, _, rfl, hm, M.cl, M.nF, mF_fund _, _, _, rfl, rfl, .inl ⟨by omega, by omega⟩, ?_⟩
        rw [Int.natCast_mul] at q
        exact q
      · rw [if_neg (fun y => z (decide_eq_true y))] at q
        exact ⟨_, rfl, a, CM, dm, _, _, rfl, hm, M.cl, M.nG, mF_gain _, q⟩
end
end U
end
section
set_option linter.all false
set_option Elab.async false
set_option linter.all false
set_option maxRecDepth 100000
set_option maxHeartbeats 2000000
namespace U
open PySem PySem.Spec PyProof.Rows L2 L3 Lb
section
variable {P : Program} {w : World} {K : PySem.W.Frag} {mg : Str → Option Value} {base : Heap} {C CH CM : Addr}
structure HAt (CH CM : Addr) (H : Hp) (h : Addr) (s : VSt) (d n : Nat) : Prop where
  ex : ∃ md ms dv ls, HouseAt CH CM H h s md ms dv ls
  wf : Wf s
  ev : s.event = some (d, n)
theorem HAt.same {H H' : Hp} {h : Addr} {s : VSt} {d n : Nat} (k : Same H H') (A : HAt CH CM H h s d n) : HAt CH CM H' h s d n :=
  ⟨let ⟨md, ms, dv, ls, a⟩ := A.ex; ⟨md, ms, dv, ls, a.same k⟩, A.wf, A.ev⟩
abbrev s_bearers : Stmt := top 38
def spBearers (C CH CM : Addr) : Sp := fun vs H Q _ => ∃ (h : Addr) (s : VSt) (d n k : Nat), vs = [.ref h, .int (k : Nat)] ∧ HAt CH CM H h s d n ∧ 1 ≤ k ∧ k ≤ 7 ∧
  ∀ H' p zs, Same H H' → BL C H' p zs → sl zs = Vbchah.slots s d k → Q (.ref p) H'
theorem sc_bearers : FnScope ["house", "k", "member"] ["house", "k"] (defScope s_bearers) := ⟨rfl, rfl, rfl, by decide +kernel, rfl, by decide +kernel, by decide +kernel⟩
theorem one_bear {H1 : Hp} {Q : VK} {t : VSlot} (q : ∀ x p H2, Same H1 H2 → BL C H2 p [(x, t)] → Q (.ref p) H2) : ∀ x dx, H1 x = none → H1 dx = none → dx ≠ x →
    spInitB C (.ref x :: ([.int t.key, .int t.weight, .int t.cap] ++ [])) (upd (upd H1 dx (.own x)) x (.ins C dx [])) (fun v H2 => v = .non ∧ ([V.ref x].length ≤ sizeLine ∧ ∀ p, H2 p = none → Q (.ref p) (upd H2 p (.lst [V.ref x])))) E0 :=
  new_bear (Q := fun v H2 => [v].length ≤ sizeLine ∧ ∀ p, H2 p = none → Q (.ref p) (upd H2 p (.lst [v]))) fun x H2 s2 b => ⟨(by show 1 ≤ sizeLine; decide), fun p hp => q x p _ (s2.trans (Same.new hp)) ⟨upd_same, fun z hz => by
    rw [List.mem_singleton.mp hz]
    exact b.keep (Same.keep (Same.new hp))⟩⟩
theorem ok_bearers {f : Addr} {fd : FuncData} (F : Fun K "bearers_of" "bearers_of" s_bearers f fd) (M : TM K CM) (O : TH K CH) (T : Tn mg)
    (N_Bearer : New P w K mg base "Bearer" C 1 ["self", "key", "weight", "most"] (spInitB C)) (D_other_members : Def P w K mg base "other_members" 1 ["house"] (spOthers CH CM))
    (D_most_of_member : Def P w K mg base "most_of_member" 1 ["house", "k", "member"] (spMost CH CM)) : FnOk P w K mg base CX0 3 f fd ["house", "k"] (spBearers C CH CM) := by
  refine F.ok sc_bearers (fun vs H Q E h => ?_) (fun cdv A outer s H vs Q E hr h => ?_)
  · obtain ⟨h, s, d, n, k, rfl, _⟩ := h
    rfl
  · obtain ⟨h, s, d, n, k, rfl, A0, k1, k7, q⟩ := h
    obtain ⟨md, ms, dv, ls, A⟩ := A0.ex
    have W := A0.wf
    obtain ⟨dx, ho⟩ := A.obj
    obtain ⟨els, m, mm, ekd, edv⟩ := A.ev1 d n A0.ev
    subst edv
    obtain ⟨dm, hm⟩ := A.mems m mm
    have hat : Vbchah.memberAt s d = some m.2 := by rw [← ekd]; exact memberAt_of W.rising (A.mem mm)
    refine ⟨_, (pss_cons (ps_if (pt_cmpR op_eq (pv 1) pe_int (nomark _)) (pss_one (ps_ret (pe_lst (pa_cons (pe_new N_Bearer (hr.mono (by decide)) (pa_cons (pe_f (pe_f (pv 0) rfl) rfl) (pa_cons pe_int (pa_cons (pe_f (pe_f (pv 0) rfl) rfl) pa_nil)))) pa_nil)))) pss_nil)
      (pss_cons (ps_if (pt_cmpR op_eq (pv 1) pe_int (nomark _)) (pss_one (ps_ret (pe_lst (pa_cons (pe_new N_Bearer (hr.mono (by decide)) (pa_cons (pe_f (pe_f (pv 0) rfl) rfl) (pa_cons pe_int (pa_cons (pe_f (pe_f (pv 0) rfl) rfl) pa_nil)))) pa_nil)))) pss_nil)
      (pss_cons (ps_if (pt_cmpR op_eq (pv 1) pe_int (nomark _)) (pss_one (ps_ret (pe_lst (pa_cons (pe_new N_Bearer (hr.mono (by decide)) (pa_cons (pe_num T.c_HOUSE_KEY) (pa_cons pe_int (pa_cons (pe_f (pv 0) rfl) pa_nil)))) pa_nil)))) pss_nil)
      (pss_cons (ps_if (pt_cmpR op_eq (pv 1) pe_int (nomark _)) (pss_one (ps_ret (pe_lst (pa_cons (pe_new N_Bearer (hr.mono (by decide)) (pa_cons (pe_num T.c_HOUSE_KEY) (pa_cons pe_int (pa_cons (pe_f (pv 0) rfl) pa_nil)))) pa_nil)))) pss_nil)
      (pss_one (ps_ret (pe_lc rfl sc_bearers.nd (pi_list (pe_def D_other_members (hr.mono (by decide)) (pa_cons (pv 0) pa_nil))) (blkOk_by (own := [("member", 2)]) rfl) (fun _ _ _ _ _ => pg_name (i := 2) sc_bearers.nd rfl (Or.inl rfl)) (fun _ _ _ _ _ => pts_nil) (fun _ _ _ _ _ => (pe_new N_Bearer (hr.mono (by decide)) (pa_cons (pe_f (pv 2) rfl) (pa_cons (pe_f (pv 2) rfl) (pa_cons (pe_def D_most_of_member (hr.mono (by decide)) (pa_cons (pv 0) (pa_cons (pv 1) (pa_cons (pv 2) pa_nil)))) pa_nil)))))))))))), ?_⟩
    refine ⟨_, rfl, rfl, _, rfl, ?_⟩
    rw [dec_nat (b := 1) (c := 1) rfl]
    refine ite2 (fun z => ?_) fun z1 => ?_
    · have z := of_decide_eq_true z
      subst z
      refine ⟨_, rfl, h, CH, dx, _, _, rfl, ho, O.cl, O.nD, hF_def _ _ _ _, m.1, CM, dm, _, _, rfl, hm, M.cl, M.nK, mF_key _, _, rfl, h, CH, dx, _, _, rfl, ho, O.cl, O.nD, hF_def _ _ _ _, m.1, CM, dm, _, _, rfl, hm, M.cl, M.nMa, mF_margin _, ?_⟩
      refine one_bear (t := ⟨m.2.key, 1, m.2.margin⟩) fun x p H2 s2 b => q H2 p _ s2 b ?_
      show [(⟨m.2.key, 1, m.2.margin⟩ : VSlot)] = (match Vbchah.memberAt s d with | some m => [⟨d, 1, m.margin⟩] | none => [])
      rw [hat, ekd]
    refine ⟨_, rfl, rfl, _, rfl, ?_⟩
    rw [dec_nat (b := 2) (c := 2) rfl]
    refine ite2 (fun z => ?_) fun z2 => ?_
    · have z := of_decide_eq_true z
      subst z
      refine ⟨_, rfl, h, CH, dx, _, _, rfl, ho, O.cl, O.nD, hF_def _ _ _ _, m.1, CM, dm, _, _, rfl, hm, M.cl, M.nK, mF_key _, _, rfl, h, CH, dx, _, _, rfl, ho, O.cl, O.nD, hF_def _ _ _ _, m.1, CM, dm, _, _, rfl, hm, M.cl, M.nF, mF_fund _, ?_⟩
      refine one_bear (t := ⟨m.2.key, 1, m.2.fund⟩) fun x p H2 s2 b => q H2 p _ s2 b ?_
      show [(⟨m.2.key, 1, m.2.fund⟩ : VSlot)] = (match Vbchah.memberAt s d with | some m => [⟨d, 1, m.fund⟩] | none => [])
      rw [hat, ekd]
    refine ⟨_, rfl, rfl, _, rfl, ?_⟩
    rw [dec_nat (b := 3) (c := 3) rfl]
    refine ite2 (fun z => ?_) fun z3 => ?_
    · have z := of_decide_eq_true z
      subst z
      refine ⟨_, rfl, h, CH, dx, _, _, rfl, ho, O.cl, O.nF, hF_first _ _ _ _, ?_⟩
      exact one_bear (t := ⟨0, 1, s.first⟩) fun x p H2 s2 b => q H2 p _ s2 b rfl
    refine ⟨_, rfl, rfl, _, rfl, ?_⟩
    rw [dec_nat (b := 7) (c := 7) rfl]
    refine ite2 (fun z => ?_) fun z7 => ?_
    · have z := of_decide_eq_true z
      subst z
      refine ⟨_, rfl, h, CH, dx, _, _, rfl, ho, O.cl, O.nL, hF_last _ _ _ _, ?_⟩
      exact one_bear (t := ⟨0, 1, s.last⟩) fun x p H2 s2 b => q H2 p _ s2 b rfl
    have hk : k = 4 ∨ k = 5 ∨ k = 6 := by
      have a1 : k ≠ 1 := fun y => z1 (decide_eq_true y)
      have a2 : k ≠ 2 := fun y => z2 (decide_eq_true y)
      have a3 : k ≠ 3 := fun y => z3 (decide_eq_true y)
      have a7 : k ≠ 7 := fun y => z7 (decide_eq_true y)
      omega
    refine ⟨_, rfl, h, s, md, ms, _, ls, d, n, rfl, A, W, A0.ev, fun H1 p zs s1 hp hz eo => ?_⟩
    have A1 := A.same s1
    have hzl : zs.length ≤ 12 := by
      have := congrArg List.length eo
      rw [List.length_map] at this
      rw [this]
      exact Nat.le_trans (List.length_filter_le _ _) W.len
    refine ⟨p, rfl, ⟨_, SqL.of hp⟩, fun D hD => lc_mk (fun z : Addr × VMem => V.ref z.1) (fun _ => true) (fun z y H => ∃ a, y = V.ref a ∧ BearAt C H a ⟨z.2.key, z.2.weight, mostOf s k z.2⟩) hD (SqL.of hp) (small12 hzl) (fun z y H H' kp ⟨a, e, b⟩ => ⟨a, e, b.keep kp⟩) (fun _ _ _ _ _ q => q) (fun z mz _ H' s5 Q0 q0 => ?_) fun H2 ys s2 hDD pr => ?_⟩
    · obtain ⟨dz, hzz⟩ := A1.mems z (hz z mz)
      refine ⟨_, rfl, z.1, CM, dz, _, _, rfl, s5 _ _ hzz, M.cl, M.nK, mF_key _, _, rfl, z.1, CM, dz, _, _, rfl, s5 _ _ hzz, M.cl, M.nW, mF_weight _, _, rfl, _, rfl, _, rfl, h, z.1, k, z.2, s, md, ms, _, ls, rfl, A1.same s5, ⟨dz, s5 _ _ hzz⟩, W.multiple, ?_⟩
      exact new_bear (s := ⟨z.2.key, z.2.weight, mostOf s k z.2⟩) fun x H4 s4 b => q0 _ _ s4 ⟨x, rfl, b⟩
    · rw [filt_true] at pr
      have conv : ∀ {zl : List (Addr × VMem)} {yl : List V}, Paired (fun z y => ∃ a, y = V.ref a ∧ BearAt C H2 a ⟨z.2.key, z.2.weight, mostOf s k z.2⟩) zl yl → ∃ zs2 : List (Addr × VSlot), yl = zs2.map (fun z => V.ref z.1) ∧ (∀ z ∈ zs2, BearAt C H2 z.1 z.2) ∧ sl zs2 = zl.map fun z => ⟨z.2.key, z.2.weight, mostOf s k z.2⟩ := fun {zl yl} r => by
        induction r with
        | nil => exact ⟨[], rfl, fun _ h => absurd h List.not_mem_nil, rfl⟩
        | @cons zz _ _ _ r _ ih =>
          obtain ⟨a, e, b⟩ := r
          obtain ⟨zs2, e1, e2, e3⟩ := ih
          refine ⟨(a, ⟨zz.2.key, zz.2.weight, mostOf s k zz.2⟩) :: zs2, by rw [List.map_cons, e, e1], fun z hz => ?_, by rw [List.map_cons (a := zz), ← e3]; rfl⟩
          rcases List.mem_cons.mp hz with rfl | hz
          · exact b
          · exact e2 z hz
      obtain ⟨zs2, ey, b2, es⟩ := conv pr
      subst ey
      refine q H2 D zs2 (s1.trans s2) ⟨hDD, b2⟩ ?_
      rw [es]
      have e2 : (zs.map fun z => (⟨z.2.key, z.2.weight, mostOf s k z.2⟩ : VSlot)) = (Vbchah.others s d).map fun m => ⟨m.key, m.weight, mostOf s k m⟩ := by rw [← eo, List.map_map]; rfl
      rw [e2]
      rcases hk with rfl | rfl | rfl <;> rfl
theorem slots_len {s : VSt} (W : Wf s) (d k : Nat) : (Vbchah.slots s d k).length ≤ 12 := by
  have ho : (Vbchah.others s d).length ≤ 12 := Nat.le_trans (List.length_filter_le _ _) W.len
  unfold Vbchah.slots
  split
  · split
    · exact (by decide : 1 ≤ 12)
    · exact Nat.zero_le _
  · split
    · exact (by decide : 1 ≤ 12)
    · exact Nat.zero_le _
  · exact (by decide : 1 ≤ 12)
  · rw [List.length_map]; exact ho
  · rw [List.length_map]; exact ho
  · rw [List.length_map]; exact ho
  · exact (by decide : 1 ≤ 12)
  · exact Nat.zero_le _
abbrev s_roomAt : Stmt := top 41
def spRoomAt (CH CM : Addr) : Sp := fun vs H Q _ => ∃ (h : Addr) (s : VSt) (d n k : Nat), vs = [.ref h, .int (k : Nat)] ∧ HAt CH CM H h s d n ∧ 1 ≤ k ∧ k ≤ 7 ∧ ∀ H', Same H H' → Q (.int (Vbchah.room (Vbchah.slots s d k) : Nat)) H'
theorem sc_roomAt : FnScope ["house", "k"] ["house", "k"] (defScope s_roomAt) := ⟨rfl, rfl, rfl, by decide +kernel, rfl, by decide +kernel, by decide +kernel⟩
theorem ok_roomAt {f : Addr} {fd : FuncData} (F : Fun K "room_at" "room_at" s_roomAt f fd) (D_room_of : Def P w K mg base "room_of" 1 ["bearers"] (spRoom C)) (D_bearers_of : Def P w K mg base "bearers_of" 3 ["house", "k"] (spBearers C CH CM)) :
    FnOk P w K mg base CX0 4 f fd ["house", "k"] (spRoomAt CH CM) := by
  refine F.ok sc_roomAt (fun vs H Q E h => ?_) (fun cdv A outer s H vs Q E hr h => ?_)
  · obtain ⟨h, s, d, n, k, rfl, _⟩ := h
    rfl
  · obtain ⟨h, s, d, n, k, rfl, A, k1, k7, q⟩ := h
    refine ⟨_, (pss_one (ps_ret (pe_def D_room_of (hr.mono (by decide)) (pa_cons (pe_def D_bearers_of (hr.mono (by decide)) (pa_cons (pv 0) (pa_cons (pv 1) pa_nil))) pa_nil)))), ?_⟩
    refine ⟨_, rfl, _, rfl, h, s, d, n, k, rfl, A, k1, k7, fun H1 p zs s1 L es => ⟨p, zs, rfl, L, ?_, fun H2 s2 => ?_⟩⟩
    · have := slots_len A.wf d k
      rw [← es, List.length_map] at this
      exact this
    · rw [es]
      exact q H2 (s1.trans s2)
abbrev s_ahead : Stmt := top 42
def spAhead (CH CM : Addr) : Sp := fun vs H Q _ => ∃ (h : Addr) (s : VSt) (d n k : Nat), vs = [.ref h, .int (k : Nat)] ∧ HAt CH CM H h s d n ∧ 1 ≤ k ∧ k ≤ 8 ∧ ∀ H', Same H H' → Q (.int (Vbchah.before s d k : Nat)) H'
theorem sc_ahead : FnScope ["house", "k", "ahead"] ["house", "k"] (defScope s_ahead) := ⟨rfl, rfl, rfl, by decide +kernel, rfl, by decide +kernel, by decide +kernel⟩
theorem ok_ahead {f : Addr} {fd : FuncData} (F : Fun K "room_ahead" "room_ahead" s_ahead f fd) (T : Bt mg) (D_room_at : Def P w K mg base "room_at" 4 ["house", "k"] (spRoomAt CH CM)) :
    FnOk P w K mg base CX0 5 f fd ["house", "k"] (spAhead CH CM) := by
  refine F.ok sc_ahead (fun vs H Q E h => ?_) (fun cdv A outer s H vs Q E hr h => ?_)
  · obtain ⟨h, s, d, n, k, rfl, _⟩ := h
    rfl
  · obtain ⟨h, s, d, n, k, rfl, A, k1, k8, q⟩ := h
    refine ⟨_, (pss_one (ps_ret (pe_callB (cr_sum rfl) rfl T.b_sum boot_sum (pa_cons (pe_lc rfl sc_ahead.nd (pi_range2 rfl T.b_range (pa_cons pe_int (pa_cons (pv 1) pa_nil))) (blkOk_by (own := [("ahead", 2)]) rfl) (fun _ _ _ _ _ => pg_name (i := 2) sc_ahead.nd rfl (Or.inl rfl)) (fun _ _ _ _ _ => pts_nil) (fun _ _ _ _ _ => (pe_def D_room_at (hr.mono (by decide)) (pa_cons (pv 0) (pa_cons (pv 2) pa_nil))))) pa_nil)))), ?_⟩
    have e1 : (((k : Nat) : Int) - 1).toNat = k - 1 := by omega
    refine ⟨_, rfl, 1, (k : Int), rfl, ⟨by decide, by decide, by omega, by omega⟩, fun D hD => ?_⟩
    try dsimp only
    rw [e1]
    refine lc_rangeP (fun j => .int (Vbchah.room (Vbchah.slots s d (j + 1)) : Nat)) hD (small12 (by omega)) (fun j hj H' s5 Q0 q0 => ?_) fun H' s5 hDH => ?_
    · have ej : (1 : Int) + ((j : Nat) : Int) = ((j + 1 : Nat) : Int) := by omega
      rw [ej]
      exact ⟨_, rfl, _, rfl, h, s, d, n, j + 1, rfl, A.same s5, by omega, by omega, fun H4 s4 => q0 H4 s4⟩
    · refine ⟨D, (List.range (k - 1)).map fun j => ((Vbchah.room (Vbchah.slots s d (j + 1)) : Nat) : Int), rfl, SqL.of (by rw [hDH, List.map_map]; rfl), ?_⟩
      rw [sum_int fun j => Vbchah.room (Vbchah.slots s d (j + 1))]
      exact q H' s5
abbrev s_borne : Stmt := top 43
def spBorne (CH CM : Addr) : Sp := fun vs H Q _ => ∃ (h : Addr) (s : VSt) (d n k m : Nat), vs = [.ref h, .int (k : Nat), .int (m : Nat)] ∧ HAt CH CM H h s d n ∧ 1 ≤ k ∧ k ≤ 7 ∧ ∀ H', Same H H' → Q (.int (Vbchah.bears s d m k : Nat)) H'
theorem sc_borne : FnScope ["house", "k", "loss"] ["house", "k", "loss"] (defScope s_borne) := ⟨rfl, rfl, rfl, by decide +kernel, rfl, by decide +kernel, by decide +kernel⟩
theorem ok_borne {f : Addr} {fd : FuncData} (F : Fun K "borne_at" "borne_at" s_borne f fd) (T : Bt mg) (D_room_at : Def P w K mg base "room_at" 4 ["house", "k"] (spRoomAt CH CM)) (D_room_ahead : Def P w K mg base "room_ahead" 5 ["house", "k"] (spAhead CH CM)) :
    FnOk P w K mg base CX0 6 f fd ["house", "k", "loss"] (spBorne CH CM) := by
  refine F.ok sc_borne (fun vs H Q E h => ?_) (fun cdv A outer s H vs Q E hr h => ?_)
  · obtain ⟨h, s, d, n, k, m, rfl, _⟩ := h
    rfl
  · obtain ⟨h, s, d, n, k, m, rfl, A, k1, k7, q⟩ := h
    refine ⟨_, (pss_one (ps_ret (pe_callB (call_min2 rfl) rfl T.b_min boot_min (pa_cons (pe_callB (call_max2 rfl) rfl T.b_max boot_max (pa_cons (pe_op op_sub (pv 2) (pe_def D_room_ahead (hr.mono (by decide)) (pa_cons (pv 0) (pa_cons (pv 1) pa_nil)))) (pa_cons pe_int pa_nil))) (pa_cons (pe_def D_room_at (hr.mono (by decide)) (pa_cons (pv 0) (pa_cons (pv 1) pa_nil))) pa_nil))))), ?_⟩
    refine ⟨_, rfl, _, rfl, _, rfl, h, s, d, n, k, rfl, A, k1, by omega, fun H1 s1 => ⟨_, _, rfl, rfl, _, _, rfl, _, rfl, _, rfl, h, s, d, n, k, rfl, A.same s1, k1, k7, fun H2 s2 => ⟨_, _, rfl, ?_⟩⟩⟩
    have e : (if ((Vbchah.room (Vbchah.slots s d k) : Nat) : Int) < (if (0 : Int) > ((m : Nat) : Int) - ((Vbchah.before s d k : Nat) : Int) then 0 else ((m : Nat) : Int) - ((Vbchah.before s d k : Nat) : Int)) then ((Vbchah.room (Vbchah.slots s d k) : Nat) : Int) else (if (0 : Int) > ((m : Nat) : Int) - ((Vbchah.before s d k : Nat) : Int) then 0 else ((m : Nat) : Int) - ((Vbchah.before s d k : Nat) : Int))) = ((Vbchah.bears s d m k : Nat) : Int) := by
      unfold Vbchah.bears
      split <;> split <;> omega
    try dsimp only
    rw [e]
    exact q H2 (s1.trans s2)
abbrev s_covered : Stmt := top 44
def spCovered (CH CM : Addr) : Sp := fun vs H Q _ => ∃ (h : Addr) (s : VSt) (d n m : Nat), vs = [.ref h, .int (m : Nat)] ∧ HAt CH CM H h s d n ∧ ∀ H', Same H H' → Q (.int (min m (Vbchah.whole s d) : Nat)) H'
theorem sc_covered : FnScope ["house", "loss"] ["house", "loss"] (defScope s_covered) := ⟨rfl, rfl, rfl, by decide +kernel, rfl, by decide +kernel, by decide +kernel⟩
theorem ok_covered {f : Addr} {fd : FuncData} (F : Fun K "covered_at" "covered_at" s_covered f fd) (B : Bt mg) (T : Tn mg) (D_room_ahead : Def P w K mg base "room_ahead" 5 ["house", "k"] (spAhead CH CM)) :
    FnOk P w K mg base CX0 6 f fd ["house", "loss"] (spCovered CH CM) := by
  refine F.ok sc_covered (fun vs H Q E h => ?_) (fun cdv A outer s H vs Q E hr h => ?_)
  · obtain ⟨h, s, d, n, m, rfl, _⟩ := h
    rfl
  · obtain ⟨h, s, d, n, m, rfl, A, q⟩ := h
    refine ⟨_, (pss_one (ps_ret (pe_callB (call_min2 rfl) rfl B.b_min boot_min (pa_cons (pv 1) (pa_cons (pe_def D_room_ahead (hr.mono (by decide)) (pa_cons (pv 0) (pa_cons (pe_op op_add (pe_num T.c_LAST_LAYER) pe_int) pa_nil))) pa_nil))))), ?_⟩
    refine ⟨_, rfl, _, rfl, _, _, rfl, rfl, h, s, d, n, 8, rfl, A, by decide, by decide, fun H1 s1 => ⟨_, _, rfl, ?_⟩⟩
    have e : (if ((Vbchah.before s d 8 : Nat) : Int) < ((m : Nat) : Int) then ((Vbchah.before s d 8 : Nat) : Int) else ((m : Nat) : Int)) = ((min m (Vbchah.whole s d) : Nat) : Int) := by
      show _ = ((min m (Vbchah.before s d 8) : Nat) : Int)
      split <;> omega
    try dsimp only
    rw [e]
    exact q H1 s1
abbrev s_uncovered : Stmt := top 45
def spUncovered (CH CM : Addr) : Sp := fun vs H Q _ => ∃ (h : Addr) (s : VSt) (d n m : Nat), vs = [.ref h, .int (m : Nat)] ∧ HAt CH CM H h s d n ∧ ∀ H', Same H H' → Q (.int (m - Vbchah.whole s d : Nat)) H'
theorem sc_uncovered : FnScope ["house", "loss"] ["house", "loss"] (defScope s_uncovered) := ⟨rfl, rfl, rfl, by decide +kernel, rfl, by decide +kernel, by decide +kernel⟩
theorem ok_uncovered {f : Addr} {fd : FuncData} (F : Fun K "uncovered_at" "uncovered_at" s_uncovered f fd) (D_covered_at : Def P w K mg base "covered_at" 6 ["house", "loss"] (spCovered CH CM)) :
    FnOk P w K mg base CX0 7 f fd ["house", "loss"] (spUncovered CH CM) := by
  refine F.ok sc_uncovered (fun vs H Q E h => ?_) (fun cdv A outer s H vs Q E hr h => ?_)
  · obtain ⟨h, s, d, n, m, rfl, _⟩ := h
    rfl
  · obtain ⟨h, s, d, n, m, rfl, A, q⟩ := h
    refine ⟨_, (pss_one (ps_ret (pe_op op_sub (pv 1) (pe_def D_covered_at (hr.mono (by decide)) (pa_cons (pv 0) (pa_cons (pv 1) pa_nil)))))), ?_⟩
    refine ⟨_, rfl, _, rfl, _, rfl, h, s, d, n, m, rfl, A, fun H1 s1 => ⟨_, _, rfl, rfl, ?_⟩⟩
    have e : ((m : Nat) : Int) - ((min m (Vbchah.whole s d) : Nat) : Int) = ((m - Vbchah.whole s d : Nat) : Int) := by omega
    try dsimp only
    rw [e]
    exact q H1 s1
theorem slots_sm {s : VSt} (W : Wf s) (d k : Nat) : Sm (Vbchah.slots s d k) := by
  have one : ∀ (key c : Nat), c ≤ Vbchah.MONEY → Sm [⟨key, 1, c⟩] := fun key c hc =>
    ⟨(by decide : 1 ≤ 12), fun t ht => by
      rw [List.mem_singleton.mp ht]
      show c < 2 ^ 62
      unfold Vbchah.MONEY at hc
      omega, fun t ht => by
      rw [List.mem_singleton.mp ht]
      show 1 ≤ 1000000
      decide⟩
  have nil : Sm [] := ⟨Nat.zero_le _, fun _ h => absurd h List.not_mem_nil, fun _ h => absurd h List.not_mem_nil⟩
  have ho : (Vbchah.others s d).length ≤ 12 := Nat.le_trans (List.length_filter_le _ _) W.len
  have oth : ∀ g : VMem → Nat, (∀ m ∈ s.members, g m < 2 ^ 62) → Sm ((Vbchah.others s d).map fun m => ⟨m.key, m.weight, g m⟩) := fun g hg =>
    ⟨by rw [List.length_map]; exact ho, fun t ht => by
      obtain ⟨m, hm, rfl⟩ := List.mem_map.mp ht
      exact hg m (List.mem_filter.mp hm).1, fun t ht => by
      obtain ⟨m, hm, rfl⟩ := List.mem_map.mp ht
      have := (W.mem m (List.mem_filter.mp hm).1).weight
      unfold Vbchah.WEIGHT at this
      exact this⟩
  unfold Vbchah.slots
  split
  · split
    · rename_i m hm
      exact one _ _ (W.mem m (memberAt_some hm).1).margin
    · exact nil
  · split
    · rename_i m hm
      exact one _ _ (W.mem m (memberAt_some hm).1).fund
    · exact nil
  · exact one _ _ W.first
  · refine oth (fun m => m.fund) fun m hm => ?_
    have := (W.mem m hm).fund
    unfold Vbchah.MONEY at this
    omega
  · refine oth (fun m => s.multiple * m.fund) fun m hm => ?_
    have := (W.mem m hm).fund
    have h10 := W.multiple
    unfold Vbchah.MONEY at this
    have : s.multiple * m.fund ≤ 10 * 1000000000000 := Nat.mul_le_mul h10 this
    omega
  · refine oth (fun m => m.gain) fun m hm => ?_
    have := (W.mem m hm).gain
    unfold Vbchah.MONEY at this
    omega
  · exact one _ _ W.last
  · exact nil
abbrev s_sharesAt : Stmt := top 46
def spSharesAt (CH CM : Addr) : Sp := fun vs H Q _ => ∃ (h : Addr) (s : VSt) (d n k m : Nat), vs = [.ref h, .int (k : Nat), .int (m : Nat)] ∧ HAt CH CM H h s d n ∧ 1 ≤ k ∧ k ≤ 7 ∧ m < 2 ^ 62 ∧
  ∀ H' p, Same H H' → H p = none → H' p = some (.dK (shareKV (Vbchah.slots s d k) (Vbchah.bears s d m k))) → Q (.ref p) H'
theorem sc_sharesAt : FnScope ["house", "k", "loss"] ["house", "k", "loss"] (defScope s_sharesAt) := ⟨rfl, rfl, rfl, by decide +kernel, rfl, by decide +kernel, by decide +kernel⟩
theorem ok_sharesAt {f : Addr} {fd : FuncData} (F : Fun K "shares_at" "shares_at" s_sharesAt f fd) (D_shares_after : Def P w K mg base "shares_after" 5 ["bearers", "units"] (spShares C)) (D_bearers_of : Def P w K mg base "bearers_of" 3 ["house", "k"] (spBearers C CH CM))
    (D_borne_at : Def P w K mg base "borne_at" 6 ["house", "k", "loss"] (spBorne CH CM)) : FnOk P w K mg base CX0 7 f fd ["house", "k", "loss"] (spSharesAt CH CM) := by
  refine F.ok sc_sharesAt (fun vs H Q E h => ?_) (fun cdv A outer s H vs Q E hr h => ?_)
  · obtain ⟨h, s, d, n, k, m, rfl, _⟩ := h
    rfl
  · obtain ⟨h, s, d, n, k, m, rfl, A, k1, k7, hm, q⟩ := h
    refine ⟨_, (pss_one (ps_ret (pe_def D_shares_after (hr.mono (by decide)) (pa_cons (pe_def D_bearers_of (hr.mono (by decide)) (pa_cons (pv 0) (pa_cons (pv 1) pa_nil))) (pa_cons (pe_def D_borne_at (hr.mono (by decide)) (pa_cons (pv 0) (pa_cons (pv 1) (pa_cons (pv 2) pa_nil)))) pa_nil))))), ?_⟩
    refine ⟨_, rfl, _, rfl, h, s, d, n, k, rfl, A, k1, k7, fun H1 p zs s1 L es => ⟨_, rfl, _, rfl, _, rfl, h, s, d, n, k, m, rfl, A.same s1, k1, k7, fun H2 s2 => ⟨p, zs, Vbchah.bears s d m k, rfl, L.same s2, by rw [es]; exact slots_sm A.wf d k, by rw [es]; exact slots_fine A.wf d k, by rw [es]; exact bears_le s d m k, ?_, fun H3 x s3 hx e3 => ?_⟩⟩⟩
    · unfold Vbchah.bears
      omega
    · rw [es] at e3
      exact q H3 x ((s1.trans s2).trans s3) ((s1.trans s2).free hx) e3
end
end U
end
section
set_option linter.all false
set_option Elab.async false
set_option linter.all false
set_option maxRecDepth 100000
set_option maxHeartbeats 2000000
namespace U
open PySem PySem.Spec PyProof.Rows L2 L3 Lb
theorem pe_tupg {X : Cx} {x : Str} {a : Addr} {pos : Pos} (h : X.mg x = some (.ref a)) (hg : Gl X x := by rfl) (hd : (x == ("__debug__" : Str)) = false := by decide) : PE X (.Name x pos) (tC (.ref a)) := pe_glob hg h rfl hd
structure Tg (K : PySem.W.Frag) (mg : Str → Option Value) (nob cnt : Addr) : Prop where
  c_NOBODY : mg "NOBODY" = some (.ref nob)
  c_ARGUMENT_COUNTS : mg "ARGUMENT_COUNTS" = some (.ref cnt)
  nob : ∀ H : Hp, SqT K H nob [.int 8, .int 0]
  cnt : ∀ H : Hp, SqT K H cnt [.int 5, .int 3, .int 3, .int 1, .int 1, .int 1, .int 0, .int 1, .int 2, .int 1, .int 1, .int 1, .int 3, .int 3, .int 0, .int 4, .int 3, .int 0, .int 0, .int 2]
theorem find_range {p : Nat → Bool} {i : Nat} : ∀ {n : Nat}, i < n → p i = true → (∀ j, j < i → p j = false) → (List.range n).find? p = some i
  | 0, h, _, _ => absurd h (Nat.not_lt_zero _)
  | n + 1, h, hp, hn => by
    rw [List.range_succ, List.find?_append]
    by_cases hi : i < n
    · rw [find_range hi hp hn]
      rfl
    · have e : i = n := by omega
      subst e
      have : (List.range i).find? p = none := List.find?_eq_none.mpr fun j hj => by
        rw [hn j (List.mem_range.mp hj)]
        exact Bool.false_ne_true
      rw [this, List.find?_cons_of_pos hp]
      rfl
theorem find_range_none {p : Nat → Bool} {n : Nat} (h : ∀ j, j < n → p j = false) : (List.range n).find? p = none := List.find?_eq_none.mpr fun j hj => by
  rw [h j (List.mem_range.mp hj)]
  exact Bool.false_ne_true
section
variable {P : Program} {w : World} {K : PySem.W.Frag} {mg : Str → Option Value} {base : Heap} {C CH CM nob cnt : Addr}
abbrev s_bearer_of : Stmt := top 40
theorem sc_bearer_of : FnScope ["house", "k", "key", "bearer"] ["house", "k", "key"] (defScope s_bearer_of) := ⟨rfl, rfl, rfl, by decide +kernel, rfl, by decide +kernel, by decide +kernel⟩
def spBearerOf (C CH CM : Addr) : Sp := fun vs H Q _ => ∃ (h : Addr) (s : VSt) (d n k key : Nat), vs = [.ref h, .int (k : Nat), .int (key : Nat)] ∧ HAt CH CM H h s d n ∧ 1 ≤ k ∧ k ≤ 7 ∧
  (∀ H', Same H H' → Vbchah.slotOf s d k key = none → Q .non H') ∧ ∀ H' x i, Same H H' → Vbchah.slotOf s d k key = some i → BearAt C H' x i → Q (.ref x) H'
theorem ok_bearer_of {f : Addr} {fd : FuncData} (F : Fun K "bearer_of" "bearer_of" s_bearer_of f fd) (B : TB K C) (D_bearers_of : Def P w K mg base "bearers_of" 3 ["house", "k"] (spBearers C CH CM)) : FnOk P w K mg base CX0 4 f fd ["house", "k", "key"] (spBearerOf C CH CM) := by
  refine F.ok sc_bearer_of (fun vs H Q E h => ?_) (fun cdv A outer st H vs Q E hr h => ?_)
  · obtain ⟨h, s, d, n, k, key, rfl, _⟩ := h
    rfl
  · obtain ⟨h, s, d, n, k, key, rfl, A, k1, k7, q0, q1⟩ := h
    refine ⟨_, (pss_cons (ps_for PassesOwn.never rfl (pi_list (pe_def D_bearers_of (hr.mono (by decide)) (pa_cons (pv 0) (pa_cons (pv 1) pa_nil)))) (pg_name (i := 3) sc_bearer_of.nd rfl (Or.inl rfl)) (pss_one (ps_if (pt_cmpR op_eq (pe_f (pv 3) rfl) (pv 2) (nomark _)) (pss_one (ps_ret (pv 3))) pss_nil)))
      (pss_one (ps_ret pe_non))), ?_⟩
    refine ⟨_, rfl, _, rfl, h, s, d, n, k, rfl, A, k1, k7, fun H1 p zs s1 L es => ⟨p, rfl, ⟨_, L.sq⟩, for_list (K := K) (a := p) (xs := zs.map fun z => V.ref z.1) (fun i σ H' => H' = H1 ∧ ∃ bv : Option V, σ = [some (.ref h), some (.int (k : Nat)), some (.int (key : Nat)), bv] ∧ ∀ z ∈ zs.take i, z.2.key ≠ key)
      ⟨rfl, none, rfl, fun z hz => absurd hz (by simp)⟩ (fun i σ H' _ ⟨e, _⟩ => by rw [e]; exact L.sq) ?_ ?_⟩⟩
    · rintro i y σ H' hi ⟨rfl, bv, rfl, no⟩
      obtain ⟨z, hz, rfl⟩ := map_at hi
      have mz : z ∈ zs := List.mem_of_getElem? hz
      obtain ⟨dx, e⟩ := L.at_ z mz
      refine ⟨_, rfl, z.1, C, dx, _, _, rfl, e, B.cl, B.nK, bF_key _, _, rfl, rfl, _, rfl, ?_⟩
      rw [dec_nat (c := key) rfl]
      refine ite2 (fun h => ?_) fun h => ?_
      · have h := of_decide_eq_true h
        refine ⟨_, rfl, q1 H' z.1 z.2 s1 ?_ ⟨dx, e⟩⟩
        unfold Vbchah.slotOf
        rw [← es]
        have R : Rising (sl zs) := by rw [es]; exact (slots_fine A.wf d k).rising
        rw [← h]
        exact find_key R (List.mem_map.mpr ⟨z, mz, rfl⟩)
      · refine ⟨rfl, _, rfl, fun z' hz' => ?_⟩
        rw [take_snoc hz] at hz'
        rcases List.mem_append.mp hz' with m | m
        · exact no z' m
        · rw [List.mem_singleton.mp m]
          exact fun e => h (decide_eq_true e)
    · rintro σ H' ⟨rfl, bv, rfl, no⟩
      rw [List.length_map, List.take_length] at no
      refine q0 H' s1 ?_
      unfold Vbchah.slotOf
      rw [← es]
      refine List.find?_eq_none.mpr fun t ht e => ?_
      obtain ⟨z, mz, rfl⟩ := List.mem_map.mp ht
      exact no z mz (eq_of_beq e)
abbrev s_share_at : Stmt := top 47
theorem sc_share_at : FnScope ["house", "k", "key", "loss"] ["house", "k", "key", "loss"] (defScope s_share_at) := ⟨rfl, rfl, rfl, by decide +kernel, rfl, by decide +kernel, by decide +kernel⟩
theorem part_find (s : VSt) (d m k key : Nat) : (valV (shareKV (Vbchah.slots s d k) (Vbchah.bears s d m k)) (Sum.inl (key : Int))) = (Vbchah.slotOf s d k key).map fun _ => V.int (Vbchah.partOf s d m k key : Nat) := by
  rw [shareKV_find]
  unfold Vbchah.partOf Vbchah.slotOf
  cases (Vbchah.slots s d k).find? fun i => i.key == key with
  | none => rfl
  | some i => rfl
def spShareAt (CH CM : Addr) : Sp := fun vs H Q _ => ∃ (h : Addr) (s : VSt) (d n k key m : Nat) (i : VSlot), vs = [.ref h, .int (k : Nat), .int (key : Nat), .int (m : Nat)] ∧ HAt CH CM H h s d n ∧ 1 ≤ k ∧ k ≤ 7 ∧ m < 2 ^ 62 ∧ Vbchah.slotOf s d k key = some i ∧
  ∀ H', Same H H' → Q (.int (Vbchah.partOf s d m k key : Nat)) H'
theorem ok_share_at {f : Addr} {fd : FuncData} (F : Fun K "share_at" "share_at" s_share_at f fd) (D_shares_at : Def P w K mg base "shares_at" 7 ["house", "k", "loss"] (spSharesAt CH CM)) : FnOk P w K mg base CX0 8 f fd ["house", "k", "key", "loss"] (spShareAt CH CM) := by
  refine F.ok sc_share_at (fun vs H Q E h => ?_) (fun cdv A outer st H vs Q E hr h => ?_)
  · obtain ⟨h, s, d, n, k, key, m, i, rfl, _⟩ := h
    rfl
  · obtain ⟨h, s, d, n, k, key, m, i, rfl, A, k1, k7, hm, hi, q⟩ := h
    have hu := hu_of hr
    refine ⟨_, (pss_one (ps_ret (pe_dget hu (pe_def D_shares_at (hr.mono (by decide)) (pa_cons (pv 0) (pa_cons (pv 1) (pa_cons (pv 3) pa_nil)))) (pv 2) (fun _ _ => rfl)))), ?_⟩
    refine ⟨_, rfl, _, rfl, _, rfl, h, s, d, n, k, m, rfl, A, k1, k7, hm, fun H1 p s1 hp e1 => ⟨_, rfl, p, _, rfl, dget_of e1 (by rw [part_find, hi]; rfl), q H1 s1⟩⟩
abbrev s_taker_of_unit : Stmt := top 48
theorem sc_taker_of_unit : FnScope ["house", "unit", "place", "k", "bearers", "room"] ["house", "unit"] (defScope s_taker_of_unit) := ⟨rfl, rfl, rfl, by decide +kernel, rfl, by decide +kernel, by decide +kernel⟩
theorem before_mono {s : VSt} {d : Nat} : ∀ {j k : Nat}, 1 ≤ j → j ≤ k → Vbchah.before s d j ≤ Vbchah.before s d k
  | j, 0, h, hk => by omega
  | j, k + 1, h, hk => by
    by_cases e : j = k + 1
    · rw [e]; exact Nat.le_refl _
    · rw [before_succ s d (by omega)]
      exact Nat.le_trans (before_mono h (by omega)) (Nat.le_add_right _ _)
theorem bearer_at {s : VSt} {d u i : Nat} (hi : i < 7) (h1 : Vbchah.before s d (i + 1) < u) (h2 : u ≤ Vbchah.before s d (i + 2)) : Vbchah.bearer s d u = (i + 1, Vbchah.unitOf (Vbchah.slots s d (i + 1)) (u - Vbchah.before s d (i + 1))) := by
  unfold Vbchah.bearer
  have : ((List.range Vbchah.LAYERS).find? fun k => decide (u ≤ Vbchah.before s d (k + 2))) = some i := find_range hi (decide_eq_true h2) fun j hj => decide_eq_false fun z => by
    have := before_mono (s := s) (d := d) (j := j + 2) (k := i + 1) (by omega) (by omega)
    omega
  rw [this]
theorem bearer_none {s : VSt} {d u : Nat} (h : Vbchah.before s d 8 < u) : Vbchah.bearer s d u = (8, 0) := by
  unfold Vbchah.bearer
  have : ((List.range Vbchah.LAYERS).find? fun k => decide (u ≤ Vbchah.before s d (k + 2))) = none := find_range_none fun j hj => decide_eq_false fun z => by
    have hj : j < 7 := hj
    have := before_mono (s := s) (d := d) (j := j + 2) (k := 8) (by omega) (by omega)
    omega
  rw [this]
def spTakerU (K : PySem.W.Frag) (CH CM : Addr) : Sp := fun vs H Q _ => ∃ (h : Addr) (s : VSt) (d n u : Nat), vs = [.ref h, .int (u : Nat)] ∧ HAt CH CM H h s d n ∧ 1 ≤ u ∧ u < 2 ^ 62 ∧
  ∀ H' p, Same H H' → SqT K H' p [.int ((Vbchah.bearer s d u).1 : Nat), .int ((Vbchah.bearer s d u).2 : Nat)] → Q (.ref p) H'
theorem ok_taker_of_unit {f : Addr} {fd : FuncData} (F : Fun K "taker_of_unit" "taker_of_unit" s_taker_of_unit f fd) (B : Bt mg) (T : Tn mg) (G : Tg K mg nob cnt) (D_bearers_of : Def P w K mg base "bearers_of" 3 ["house", "k"] (spBearers C CH CM)) (D_room_of : Def P w K mg base "room_of" 1 ["bearers"] (spRoom C)) (D_taker_of : Def P w K mg base "taker_of" 6 ["bearers", "unit"] (spTaker C)) : FnOk P w K mg base CX0 7 f fd ["house", "unit"] (spTakerU K CH CM) := by
  refine F.ok sc_taker_of_unit (fun vs H Q E h => ?_) (fun cdv A outer st H vs Q E hr h => ?_)
  · obtain ⟨h, s, d, n, u, rfl, _⟩ := h
    rfl
  · obtain ⟨h, s, d, n, u, rfl, A, u1, u2, q⟩ := h
    refine ⟨_, (pss_cons (ps_set (i := 2) sc_taker_of_unit.nd rfl (Or.inl rfl) (pv 1))
      (pss_cons (ps_for PassesOwn.never rfl (pi_range2 rfl B.b_range (pa_cons pe_int (pa_cons (pe_op op_add (pe_num T.c_LAST_LAYER) pe_int) pa_nil))) (pg_name (i := 3) sc_taker_of_unit.nd rfl (Or.inl rfl)) (pss_cons (ps_set (i := 4) sc_taker_of_unit.nd rfl (Or.inl rfl) (pe_def D_bearers_of (hr.mono (by decide)) (pa_cons (pv 0) (pa_cons (pv 3) pa_nil))))
      (pss_cons (ps_set (i := 5) sc_taker_of_unit.nd rfl (Or.inl rfl) (pe_def D_room_of (hr.mono (by decide)) (pa_cons (pv 4) pa_nil)))
      (pss_cons (ps_if (pt_cmpR op_le (pv 2) (pv 5) (nomark _)) (pss_one (ps_ret (pe_tup (pa_cons (pv 3) (pa_cons (pe_def D_taker_of (hr.mono (by decide)) (pa_cons (pv 4) (pa_cons (pv 2) pa_nil))) pa_nil))))) pss_nil)
      (pss_one (ps_set (i := 2) sc_taker_of_unit.nd rfl (Or.inl rfl) (pe_op op_sub (pv 2) (pv 5))))))))
      (pss_one (ps_ret (pe_tupg G.c_NOBODY))))), ?_⟩
    refine ⟨_, rfl, _, _, rfl, rfl, 1, 8, rfl, ⟨by decide, by decide, by decide, by decide⟩, for_range (lo := 1) (n := 7) (fun i σ H' => Same H H' ∧ ∃ (pl : Nat) (v3 v4 v5 : Option V), σ = [some (.ref h), some (.int (u : Nat)), some (.int (pl : Nat)), v3, v4, v5] ∧ pl + Vbchah.before s d (i + 1) = u ∧ 1 ≤ pl)
      ⟨Same.refl _, u, none, none, none, rfl, by rw [before_one]; rfl, u1⟩ ?_ ?_⟩
    · rintro i σ H' hi ⟨s1, pl, v3, v4, v5, rfl, epl, hpl⟩
      have ei : (1 : Int) + ((i : Nat) : Int) = ((i + 1 : Nat) : Int) := by omega
      show tSeq _ _ _ _ _
      refine ⟨_, rfl, _, rfl, h, s, d, n, i + 1, by rw [← ei]; rfl, A.same s1, by omega, by omega, fun H2 p zs s2 L es => ?_⟩
      have hzl : zs.length ≤ 12 := by
        have := slots_len A.wf d (i + 1)
        rw [← es, List.length_map] at this
        exact this
      refine ⟨_, rfl, p, zs, rfl, L, hzl, fun H3 s3 => ?_⟩
      have L3 := L.same s3
      refine ⟨_, rfl, _, rfl, _, _, rfl, rfl, _, rfl, ?_⟩
      have eb : Vbchah.before s d (i + 2) = Vbchah.before s d (i + 1) + Vbchah.room (Vbchah.slots s d (i + 1)) := before_succ s d (by omega)
      refine ite2 (fun z => ?_) fun z => ?_
      · have z := of_decide_eq_true z
        have z : pl ≤ Vbchah.room (sl zs) := by omega
        refine ⟨_, rfl, _, rfl, _, rfl, p, zs, pl, rfl, L3, by rw [es]; exact slots_sm A.wf d (i + 1), by rw [es]; exact slots_fine A.wf d (i + 1), hpl, z, by omega, fun H4 s4 => ⟨(by show 2 ≤ sizeLine; decide), fun t ht => ?_⟩⟩
        refine q _ t ((((s1.trans s2).trans s3).trans s4).trans (Same.new ht)) (SqT.of ?_)
        rw [es] at z ⊢
        rw [upd_same, bearer_at hi (by omega) (by omega)]
        have e1 : u - Vbchah.before s d (i + 1) = pl := by omega
        rw [e1, ei]
      · have z : ¬ ((pl : Nat) : Int) ≤ ((Vbchah.room (sl zs) : Nat) : Int) := fun y => z (decide_eq_true y)
        have e1 : ((pl : Nat) : Int) - ((Vbchah.room (sl zs) : Nat) : Int) = ((pl - Vbchah.room (sl zs) : Nat) : Int) := by omega
        have ev : ((fun i j : Int => V.int (i - j)) ((pl : Nat) : Int) ((Vbchah.room (sl zs) : Nat) : Int)) = V.int ((pl - Vbchah.room (sl zs) : Nat) : Int) := congrArg V.int e1
        refine ⟨_, rfl, _, rfl, _, _, rfl, rfl, (s1.trans s2).trans s3, pl - Vbchah.room (sl zs), some (.int (1 + ((i : Nat) : Int))), some (.ref p), some (.int (Vbchah.room (sl zs) : Nat)), ?_, ?_, by omega⟩
        · rw [ev]
          rfl
        · rw [es] at z ⊢
          show pl - _ + Vbchah.before s d (i + 2) = u
          omega
    · rintro σ H' ⟨s1, pl, v3, v4, v5, rfl, epl, hpl⟩
      have epl : pl + Vbchah.before s d 8 = u := epl
      refine q H' nob s1 ?_
      rw [bearer_none (by omega)]
      exact G.nob H'
end
end U
end
section
set_option linter.all false
set_option Elab.async false
set_option linter.all false
set_option maxRecDepth 100000
set_option maxHeartbeats 2000000
namespace U
open PySem PySem.Spec PyProof.Rows L2 L3 Lb
structure HSt (CH CM : Addr) (H : Hp) (h : Addr) (s : VSt) : Prop where
  ex : ∃ md ms dv ls, HouseAt CH CM H h s md ms dv ls
  wf : Wf s
theorem HSt.same {CH CM : Addr} {H H' : Hp} {h : Addr} {s : VSt} (A : HSt CH CM H h s) (k : Same H H') : HSt CH CM H' h s := ⟨let ⟨md, ms, dv, ls, a⟩ := A.ex; ⟨md, ms, dv, ls, a.same k⟩, A.wf⟩
theorem HSt.at_ {CH CM : Addr} {H : Hp} {h : Addr} {s : VSt} {d n : Nat} (A : HSt CH CM H h s) (e : s.event = some (d, n)) : HAt CH CM H h s d n := ⟨A.ex, A.wf, e⟩
def isL : HO → Bool
  | .lst _ => true
  | .frz _ (.lst _) => true
  | _ => false
def KeepL (H H' : Hp) : Prop := ∀ b u, isL u = true → H b = some u → H' b = some u
theorem same_keepL {H H' : Hp} (s : Same H H') : KeepL H H' := fun b u _ e => s b u e
theorem KeepL.trans {H H1 H2 : Hp} (a : KeepL H H1) (b : KeepL H1 H2) : KeepL H H2 := fun c u hu e => b c u hu (a c u hu e)
theorem isL_ne {o u : HO} (hu : isL u = true) (ho : isL o = false) : u ≠ o := fun z => by
  rw [z, ho] at hu
  cases hu
theorem KeepL.upd {H : Hp} {a : Addr} {o u : HO} (h : H a = some o) (ho : isL o = false) : KeepL H (upd H a u) := fun b v hv e => by
  rw [upd_ne (ne_of e h (isL_ne hv ho))]
  exact e
theorem KeepL.seq {K : PySem.W.Frag} {H H' : Hp} {a : Addr} {xs : List V} (k : KeepL H H') (h : SqL K H a xs) : SqL K H' a xs := by
  rcases h with (h | ⟨o, h⟩) | h
  · exact .inl (.inl (k _ _ rfl h))
  · exact .inl (.inr ⟨o, k _ _ rfl h⟩)
  · exact .inr h
def Ans (CH CM : Addr) (H : Hp) (h : Addr) (r : VSt × List Int) (Q : VK) : Prop := ∀ H' p, KeepL H H' → HSt CH CM H' h r.1 → H p = none → H' p = some (.lst (r.2.map V.int)) → Q (.ref p) H'
theorem Ans.view {CH CM : Addr} {H H1 : Hp} {h : Addr} {s : VSt} {ns : List Int} {Q : VK} (a : Ans CH CM H h (s, ns) Q) (A : HSt CH CM H h s) (s1 : Same H H1) {p : Addr} {xs : List V} (hp : H1 p = none) (e : xs = ns.map V.int) : Q (.ref p) (upd H1 p (.lst xs)) :=
  a _ p (same_keepL (s1.trans (Same.new hp))) (A.same (s1.trans (Same.new hp))) (s1.free hp) (by rw [upd_same, e])
theorem Ans.same {CH CM : Addr} {H H1 : Hp} {h : Addr} {r : VSt × List Int} {Q : VK} (a : Ans CH CM H h r Q) (s1 : Same H H1) : Ans CH CM H1 h r Q := fun H' p k A e q => a H' p ((same_keepL s1).trans k) A (s1.free e) q
theorem ifT {c : Bool} {A B : Prop} (h : c = true) (a : A) : if c = true then A else B := by
  rw [if_pos h]
  exact a
theorem ifF {c : Bool} {A B : Prop} (h : c = false) (b : B) : if c = true then A else B := by
  rw [if_neg (by rw [h]; exact Bool.false_ne_true)]
  exact b
theorem len1 : 1 ≤ sizeLine := by decide
theorem len2 : 2 ≤ sizeLine := by decide
theorem len3 : 3 ≤ sizeLine := by decide
section
open Vbchah
variable {s : VSt} {k key : Int} {f : Nat → Nat → Slot → VSt × List Int} {d n : Nat} {i : Slot}
theorem borne_bad (h : layered k = false ∨ within key 0 KEY = false) : borneBy s k key f = (s, [-1]) := if_pos h
theorem borne_none (h1 : layered k = true) (h2 : within key 0 KEY = true) (he : s.event = none) : borneBy s k key f = (s, [-7]) := by
  unfold borneBy opened
  rw [if_neg (by rw [h1, h2]; simp), he]
theorem borne_no (h1 : layered k = true) (h2 : within key 0 KEY = true) (he : s.event = some (d, n)) (hs : slotOf s d k.toNat key.toNat = none) : borneBy s k key f = (s, [-8]) := by
  unfold borneBy opened
  rw [if_neg (by rw [h1, h2]; simp), he]
  dsimp only
  rw [hs]
theorem borne_yes (h1 : layered k = true) (h2 : within key 0 KEY = true) (he : s.event = some (d, n)) (hs : slotOf s d k.toNat key.toNat = some i) : borneBy s k key f = f d n i := by
  unfold borneBy opened
  rw [if_neg (by rw [h1, h2]; simp), he]
  dsimp only
  rw [hs]
theorem opened_none {g : Nat → Nat → VSt × List Int} (he : s.event = none) : opened s g = (s, [-7]) := by
  unfold opened
  rw [he]
theorem opened_some {g : Nat → Nat → VSt × List Int} (he : s.event = some (d, n)) : opened s g = g d n := by
  unfold opened
  rw [he]
end
theorem layer_nat {k : Int} (h : Vbchah.layered k = true) : ∃ j : Nat, k = (j : Int) ∧ k.toNat = j ∧ 1 ≤ j ∧ j ≤ 7 := by
  have := layered_iff.mp h
  unfold Vbchah.LAYERS at this
  exact ⟨k.toNat, by omega, rfl, by omega, by omega⟩
theorem key_nat {z : Int} {hi : Nat} {lo : Int} (hlo : 0 ≤ lo) (h : Vbchah.within z lo hi = true) : ∃ j : Nat, z = (j : Int) ∧ z.toNat = j ∧ lo ≤ j ∧ j ≤ hi := by
  have := within_iff.mp h
  exact ⟨z.toNat, by omega, rfl, by omega, by omega⟩
section
variable {P : Program} {w : World} {K : PySem.W.Frag} {mg : Str → Option Value} {base : Heap} {C CH CM nob cnt : Addr}
abbrev s_event_refusal : Stmt := top 60
theorem sc_event_refusal : FnScope ["house", "in_range"] ["house", "in_range"] (defScope s_event_refusal) := ⟨rfl, rfl, rfl, by decide +kernel, rfl, by decide +kernel, by decide +kernel⟩
def spEvRef (CH CM : Addr) : Sp := fun vs H Q _ => ∃ (h : Addr) (s : VSt) (b : Bool), vs = [.ref h, .bl b] ∧ HSt CH CM H h s ∧ (b = false → Q (.int (-1)) H) ∧ (b = true → s.event = none → Q (.int (-7)) H) ∧ ∀ d n, b = true → s.event = some (d, n) → Q (.int 0) H
theorem ok_event_refusal {f : Addr} {fd : FuncData} (F : Fun K "event_refusal" "event_refusal" s_event_refusal f fd) (O : TH K CH) (T : Tn mg) : FnOk P w K mg base CX0 1 f fd ["house", "in_range"] (spEvRef CH CM) := by
  refine F.ok sc_event_refusal (fun vs H Q E h => ?_) (fun cdv A outer st H vs Q E hr h => ?_)
  · obtain ⟨h, s, b, rfl, _⟩ := h
    rfl
  · obtain ⟨h, s, b, rfl, A, q1, q2, q3⟩ := h
    obtain ⟨md, ms, dv, ls, A1⟩ := A.ex
    obtain ⟨dx, ho⟩ := A1.obj
    refine ⟨_, (pss_cons (ps_if (pt_not (pt_val (pv 1))) (pss_one (ps_ret (pe_num T.c_OUT_OF_RANGE))) pss_nil)
      (pss_cons (ps_if (pt_cmp (pc_isN (pe_f (pv 0) rfl))) (pss_one (ps_ret (pe_num T.c_NO_EVENT))) pss_nil)
      (pss_one (ps_ret (pe_num T.c_NO_REFUSAL))))), ?_⟩
    refine ⟨_, rfl, _, rfl, ?_⟩
    cases b with
    | false => exact ifT rfl (q1 rfl)
    | true =>
      refine ifF rfl ⟨_, rfl, h, CH, dx, _, _, rfl, ho, O.cl, O.nD, hF_def _ _ _ _, _, rfl, ?_⟩
      cases he : s.event with
      | none => exact ifT (decide_eq_true (A1.ev0 he)) (q2 rfl he)
      | some e =>
        obtain ⟨d, n⟩ := e
        obtain ⟨_, m, _, _, edv⟩ := A1.ev1 d n he
        exact ifF (decide_eq_false (by rw [edv]; exact fun z => (nomatch z))) (q3 d n rfl he)
abbrev s_bearer_refusal : Stmt := top 61
theorem sc_bearer_refusal : FnScope ["house", "in_range", "k", "key", "refusal"] ["house", "in_range", "k", "key"] (defScope s_bearer_refusal) := ⟨rfl, rfl, rfl, by decide +kernel, rfl, by decide +kernel, by decide +kernel⟩
def spBRef (C CH CM : Addr) : Sp := fun vs H Q _ => ∃ (h : Addr) (s : VSt) (b : Bool) (k key : Int), vs = [.ref h, .bl b, .int k, .int key] ∧ HSt CH CM H h s ∧ (b = true → Vbchah.layered k = true ∧ Vbchah.within key 0 Vbchah.KEY = true) ∧
  (b = false → Q (.int (-1)) H) ∧ (b = true → s.event = none → Q (.int (-7)) H) ∧ (∀ d n H', b = true → s.event = some (d, n) → Vbchah.slotOf s d k.toNat key.toNat = none → Same H H' → Q (.int (-8)) H') ∧
  ∀ d n i H', b = true → s.event = some (d, n) → Vbchah.slotOf s d k.toNat key.toNat = some i → Same H H' → Q (.int 0) H'
theorem ok_bearer_refusal {f : Addr} {fd : FuncData} (F : Fun K "bearer_refusal" "bearer_refusal" s_bearer_refusal f fd) (T : Tn mg) (D_event_refusal : Def P w K mg base "event_refusal" 1 ["house", "in_range"] (spEvRef CH CM)) (D_bearer_of : Def P w K mg base "bearer_of" 4 ["house", "k", "key"] (spBearerOf C CH CM)) : FnOk P w K mg base CX0 5 f fd ["house", "in_range", "k", "key"] (spBRef C CH CM) := by
  refine F.ok sc_bearer_refusal (fun vs H Q E h => ?_) (fun cdv A outer st H vs Q E hr h => ?_)
  · obtain ⟨h, s, b, k, key, rfl, _⟩ := h
    rfl
  · obtain ⟨h, s, b, k, key, rfl, A, hb, q1, q2, q3, q4⟩ := h
    refine ⟨_, (pss_cons (ps_set (i := 4) sc_bearer_refusal.nd rfl (Or.inl rfl) (pe_def D_event_refusal (hr.mono (by decide)) (pa_cons (pv 0) (pa_cons (pv 1) pa_nil))))
      (pss_cons (ps_if (pw_and (pt_cmpR op_eq (pv 4) (pe_num T.c_NO_REFUSAL) (nomark _)) (pw_and1 (pt_cmp (pc_isN (pe_def D_bearer_of (hr.mono (by decide)) (pa_cons (pv 0) (pa_cons (pv 2) (pa_cons (pv 3) pa_nil)))))))).pt (pss_one (ps_ret (pe_num T.c_NO_BEARER))) pss_nil)
      (pss_one (ps_ret (pv 4))))), ?_⟩
    refine ⟨_, rfl, _, rfl, h, s, b, rfl, A, fun z => ?_, fun z he => ?_, fun d n z he => ?_⟩
    · exact ⟨_, rfl, rfl, _, rfl, ifF (by decide) (ifF rfl ⟨_, rfl, q1 z⟩)⟩
    · exact ⟨_, rfl, rfl, _, rfl, ifF (by decide) (ifF rfl ⟨_, rfl, q2 z he⟩)⟩
    · obtain ⟨h1, h2⟩ := hb z
      obtain ⟨j, ek, ej, j1, j7⟩ := layer_nat h1
      obtain ⟨y, ey, ey2, _, _⟩ := key_nat (Int.le_refl 0) h2
      subst ek ey
      refine ⟨_, rfl, rfl, _, rfl, ifT (by decide) ⟨_, rfl, _, rfl, _, rfl, h, s, d, n, j, y, rfl, A.at_ he, j1, j7, fun H' s1 e => ?_, fun H' x i s1 e bx => ?_⟩⟩
      · exact ⟨_, rfl, ifT (by decide) (q3 d n H' z he (by rw [ej, ey2]; exact e) s1)⟩
      · exact ⟨_, rfl, ifF (decide_eq_false (fun z => (nomatch z))) ⟨_, rfl, q4 d n i H' z he (by rw [ej, ey2]; exact e) s1⟩⟩
end
end U
end
section
set_option linter.all false
set_option Elab.async false
set_option linter.all false
set_option maxRecDepth 100000
set_option maxHeartbeats 2000000
namespace U
open PySem PySem.Spec PyProof.Rows L2 L3 Lb
section
variable {P : Program} {w : World} {K : PySem.W.Frag} {mg : Str → Option Value} {base : Heap} {C CH CM nob cnt : Addr}
theorem HAt.lossAt {H : Hp} {h : Addr} {s : VSt} {d n : Nat} (A : HAt CH CM H h s d n) : ∃ dx fs, H h = some (.ins CH dx fs) ∧ fs.lookup ("loss" : Str) = some (.int (n : Nat)) := by
  obtain ⟨md, ms, dv, ls, a⟩ := A.ex
  obtain ⟨dx, e⟩ := a.obj
  obtain ⟨els, _⟩ := a.ev1 d n A.ev
  exact ⟨dx, _, e, by rw [hF_loss, els]⟩
theorem HAt.n_lt {H : Hp} {h : Addr} {s : VSt} {d n : Nat} (A : HAt CH CM H h s d n) : n < 2 ^ 62 := by
  have := (A.wf.ev _ A.ev).2
  have : n ≤ Vbchah.LOSS := this
  unfold Vbchah.LOSS at this
  omega
theorem mem_isSome {H : Hp} {h : Addr} {s : VSt} {md : Addr} {ms : List (Addr × VMem)} {dv : V} {ls : Int} (A : HouseAt CH CM H h s md ms dv ls) (W : Wf s) (y : Nat) : (valV (memKV ms) (Sum.inl (y : Int))).isSome = (Vbchah.memberAt s y).isSome := by
  cases e : Vbchah.memberAt s y with
  | none =>
    rw [valV_memNone fun q hq z => memberAt_none.mp e q.2 (A.mem hq) (by omega)]
    rfl
  | some m =>
    obtain ⟨m1, m2⟩ := memberAt_some e
    obtain ⟨q, hq, e2⟩ := List.mem_map.mp (A.perm.symm.subset m1)
    have e3 : q.2.key = y := by rw [e2]; exact m2
    have := valV_mem (A.keysNd W) q hq
    rw [e3] at this
    rw [this]
    rfl
theorem and_false {c : Bool} {A B : Prop} (hB : B) (hA : c = true → B → A) : if c = true then A else B := by
  cases c with
  | false => exact hB
  | true => exact hA rfl hB
def spLayerV (CH CM : Addr) : Sp := fun vs H Q _ => ∃ (h : Addr) (s : VSt) (k : Int), vs = [.ref h, .int k] ∧ HSt CH CM H h s ∧ Ans CH CM H h (Vbchah.step s (.layer k)) Q
abbrev s_layer_view : Stmt := top 88
theorem sc_layer_view : FnScope ["house", "k", "refusal"] ["house", "k"] (defScope s_layer_view) := ⟨rfl, rfl, rfl, by decide +kernel, rfl, by decide +kernel, by decide +kernel⟩
theorem ok_layer_view {f : Addr} {fd : FuncData} (F : Fun K "layer_view" "layer_view" s_layer_view f fd) (O : TH K CH) (T : Tn mg) (D_is_layer : Def P w K mg base "is_layer" 1 ["k"] (spIn 1 Vbchah.LAYERS)) (D_event_refusal : Def P w K mg base "event_refusal" 1 ["house", "in_range"] (spEvRef CH CM)) (D_room_at : Def P w K mg base "room_at" 4 ["house", "k"] (spRoomAt CH CM)) (D_borne_at : Def P w K mg base "borne_at" 6 ["house", "k", "loss"] (spBorne CH CM)) : FnOk P w K mg base CX0 7 f fd ["house", "k"] (spLayerV CH CM) := by
  refine F.ok sc_layer_view (fun vs H Q E h => ?_) (fun cdv A outer st H vs Q E hr h => ?_)
  · obtain ⟨h, s, k, rfl, _⟩ := h
    rfl
  · obtain ⟨h, s, k, rfl, A, an⟩ := h
    refine ⟨_, (pss_cons (ps_set (i := 2) sc_layer_view.nd rfl (Or.inl rfl) (pe_def D_event_refusal (hr.mono (by decide)) (pa_cons (pv 0) (pa_cons (pe_def D_is_layer (hr.mono (by decide)) (pa_cons (pv 1) pa_nil)) pa_nil))))
      (pss_cons (ps_if (pt_cmpR op_ne (pv 2) (pe_num T.c_NO_REFUSAL) (nomark _)) (pss_one (ps_ret (pe_lst (pa_cons (pv 2) pa_nil)))) pss_nil)
      (pss_one (ps_ret (pe_lst (pa_cons (pe_def D_room_at (hr.mono (by decide)) (pa_cons (pv 0) (pa_cons (pv 1) pa_nil))) (pa_cons (pe_def D_borne_at (hr.mono (by decide)) (pa_cons (pv 0) (pa_cons (pv 1) (pa_cons (pe_f (pv 0) rfl) pa_nil)))) pa_nil))))))), ?_⟩
    refine ⟨_, rfl, _, rfl, k, rfl, h, s, _, rfl, A, fun hb => ?_, fun hb he => ?_, fun d n hb he => ?_⟩
    · have e : Vbchah.step s (.layer k) = (s, [-1]) := if_pos hb
      rw [e] at an
      exact ⟨_, rfl, rfl, _, rfl, ifT (by decide) ⟨_, rfl, len1, fun p hp => an.view A (Same.refl _) hp rfl⟩⟩
    · have e : Vbchah.step s (.layer k) = (s, [-7]) := (if_neg (by unfold Vbchah.layered; rw [hb]; exact Bool.noConfusion)).trans (opened_none he)
      rw [e] at an
      exact ⟨_, rfl, rfl, _, rfl, ifT (by decide) ⟨_, rfl, len1, fun p hp => an.view A (Same.refl _) hp rfl⟩⟩
    · obtain ⟨j, ek, ej, j1, j7⟩ := layer_nat (k := k) hb
      have e : Vbchah.step s (.layer k) = (s, Vbchah.ints [Vbchah.room (Vbchah.slots s d k.toNat), Vbchah.bears s d n k.toNat]) := (if_neg (by unfold Vbchah.layered; rw [hb]; exact Bool.noConfusion)).trans (opened_some he)
      rw [e, ej] at an
      subst ek
      refine ⟨_, rfl, rfl, _, rfl, ifF (by decide) ⟨_, rfl, _, rfl, h, s, d, n, j, rfl, A.at_ he, j1, j7, fun H1 s1 => ?_⟩⟩
      obtain ⟨dx, fs, ho, hl⟩ := ((A.at_ he).same s1).lossAt
      exact ⟨_, rfl, _, rfl, _, rfl, h, CH, dx, _, _, rfl, ho, O.cl, O.nLo, hl, h, s, d, n, j, n, rfl, (A.at_ he).same s1, j1, j7, fun H2 s2 => ⟨len2, fun p hp => an.view A (s1.trans s2) hp rfl⟩⟩
def spShareV (CH CM : Addr) : Sp := fun vs H Q _ => ∃ (h : Addr) (s : VSt) (k : Int) (key : Int), vs = [.ref h, .int k, .int key] ∧ HSt CH CM H h s ∧ Ans CH CM H h (Vbchah.step s (.share k key)) Q
abbrev s_share_view : Stmt := top 89
theorem sc_share_view : FnScope ["house", "k", "key", "refusal"] ["house", "k", "key"] (defScope s_share_view) := ⟨rfl, rfl, rfl, by decide +kernel, rfl, by decide +kernel, by decide +kernel⟩
theorem ok_share_view {f : Addr} {fd : FuncData} (F : Fun K "share_view" "share_view" s_share_view f fd) (O : TH K CH) (T : Tn mg) (D_is_layer : Def P w K mg base "is_layer" 1 ["k"] (spIn 1 Vbchah.LAYERS)) (D_is_bearer_key : Def P w K mg base "is_bearer_key" 1 ["key"] (spIn 0 Vbchah.KEY)) (D_bearer_refusal : Def P w K mg base "bearer_refusal" 5 ["house", "in_range", "k", "key"] (spBRef C CH CM)) (D_share_at : Def P w K mg base "share_at" 8 ["house", "k", "key", "loss"] (spShareAt CH CM)) : FnOk P w K mg base CX0 9 f fd ["house", "k", "key"] (spShareV CH CM) := by
  refine F.ok sc_share_view (fun vs H Q E h => ?_) (fun cdv A outer st H vs Q E hr h => ?_)
  · obtain ⟨h, s, k, key, rfl, _⟩ := h
    rfl
  · obtain ⟨h, s, k, key, rfl, A, an⟩ := h
    refine ⟨_, (pss_cons (ps_set (i := 3) sc_share_view.nd rfl (Or.inl rfl) (pe_def D_bearer_refusal (hr.mono (by decide)) (pa_cons (pv 0) (pa_cons (pe_and (pe_def D_is_layer (hr.mono (by decide)) (pa_cons (pv 1) pa_nil)) (pe_one (pe_def D_is_bearer_key (hr.mono (by decide)) (pa_cons (pv 2) pa_nil)))) (pa_cons (pv 1) (pa_cons (pv 2) pa_nil))))))
      (pss_cons (ps_if (pt_cmpR op_ne (pv 3) (pe_num T.c_NO_REFUSAL) (nomark _)) (pss_one (ps_ret (pe_lst (pa_cons (pv 3) pa_nil)))) pss_nil)
      (pss_one (ps_ret (pe_lst (pa_cons (pe_def D_share_at (hr.mono (by decide)) (pa_cons (pv 0) (pa_cons (pv 1) (pa_cons (pv 2) (pa_cons (pe_f (pv 0) rfl) pa_nil))))) pa_nil)))))), ?_⟩
    refine ⟨_, rfl, _, rfl, k, rfl, _, rfl, ite2 (fun h1 => ?_) fun h1 => ?_⟩
    · refine ⟨_, rfl, key, rfl, _, rfl, _, rfl, h, s, _, k, key, rfl, A, fun h2 => ⟨h1, h2⟩, fun h2 => ?_, fun h2 he => ?_, fun d n H1 h2 he hs s1 => ?_, fun d n i H1 h2 he hs s1 => ?_⟩
      · have e : Vbchah.step s (.share k key) = (s, [-1]) := borne_bad (.inr h2)
        rw [e] at an
        exact ⟨_, rfl, rfl, _, rfl, ifT (by decide) ⟨_, rfl, len1, fun p hp => an.view A (Same.refl _) hp rfl⟩⟩
      · have e : Vbchah.step s (.share k key) = (s, [-7]) := borne_none h1 h2 he
        rw [e] at an
        exact ⟨_, rfl, rfl, _, rfl, ifT (by decide) ⟨_, rfl, len1, fun p hp => an.view A (Same.refl _) hp rfl⟩⟩
      · have e : Vbchah.step s (.share k key) = (s, [-8]) := borne_no h1 h2 he hs
        rw [e] at an
        exact ⟨_, rfl, rfl, _, rfl, ifT (by decide) ⟨_, rfl, len1, fun p hp => an.view A s1 hp rfl⟩⟩
      · have e : Vbchah.step s (.share k key) = (s, Vbchah.ints [Vbchah.partOf s d n k.toNat key.toNat]) := borne_yes h1 h2 he hs
        obtain ⟨j, ek, ej, j1, j7⟩ := layer_nat (k := k) h1
        obtain ⟨y, ey, ey2, _, _⟩ := key_nat (Int.le_refl 0) h2
        rw [ej, ey2] at hs
        rw [e, ej, ey2] at an
        subst ek ey
        have A1 := (A.at_ he).same s1
        obtain ⟨dx, fs, ho, hl⟩ := A1.lossAt
        exact ⟨_, rfl, rfl, _, rfl, ifF (by decide) ⟨_, rfl, _, rfl, _, rfl, _, rfl, h, CH, dx, _, _, rfl, ho, O.cl, O.nLo, hl, h, s, d, n, j, y, n, i, rfl, A1, j1, j7, A1.n_lt, hs, fun H2 s2 => ⟨len1, fun p hp => an.view A (s1.trans s2) hp rfl⟩⟩⟩
    · refine ⟨_, rfl, _, rfl, h, s, _, k, key, rfl, A, fun h2 => (nomatch h2), fun _ => ?_, fun h2 => (nomatch h2), fun d n H1 h2 => (nomatch h2), fun d n i H1 h2 => (nomatch h2)⟩
      have e : Vbchah.step s (.share k key) = (s, [-1]) := borne_bad (.inl (Bool.eq_false_iff.mpr h1))
      rw [e] at an
      exact ⟨_, rfl, rfl, _, rfl, ifT (by decide) ⟨_, rfl, len1, fun p hp => an.view A (Same.refl _) hp rfl⟩⟩
def spSharesV (CH CM : Addr) : Sp := fun vs H Q _ => ∃ (h : Addr) (s : VSt) (k : Int), vs = [.ref h, .int k] ∧ HSt CH CM H h s ∧ Ans CH CM H h (Vbchah.step s (.shares k)) Q
abbrev s_shares_view : Stmt := top 90
theorem sc_shares_view : FnScope ["house", "k", "refusal", "shares", "answered", "key", "share"] ["house", "k"] (defScope s_shares_view) := ⟨rfl, rfl, rfl, by decide +kernel, rfl, by decide +kernel, by decide +kernel⟩
theorem shares_told (l : List VSlot) (n : Nat) : (Vbchah.ints (l.length :: (l.zip (Vbchah.shares l n)).flatMap fun x => [x.1.key, x.2])).map V.int = V.int (l.length : Nat) :: (l.map fun i => [V.int (i.key : Nat), V.int (Vbchah.shareOf l n i : Nat)]).flatten := by
  unfold Vbchah.ints Vbchah.shares
  rw [Lb.zip_map_self, List.map_cons, List.map_cons, List.flatMap_map, List.map_map]
  congr 1
  generalize Vbchah.shareOf l n = g
  induction l with
  | nil => rfl
  | cons a l ih =>
    rw [List.flatMap_cons, List.map_append, ih]
    rfl
theorem for_items {d : Addr} {o : Obj} {kvs : List (Key × V)} {g : TG} {tb : TS} {D : Ends} {σ : L2.St} {H : Hp} (Pv : Nat → L2.St → Hp → Prop) (h0 : Pv 0 σ H) (hl : ∀ i σ H, Pv i σ H → H d = some (.frz o (.dK kvs)))
    (hs : ∀ i k v σ H T, kvs[i]? = some (k, v) → Pv i σ H → H T = none → g (.ref T) σ (upd H T (.tup [kV k, v])) fun σ2 H2 => tb { D with nx := Pv (i + 1), ct := Pv (i + 1), bk := D.nx } σ2 H2) (hd : ∀ σ H, Pv kvs.length σ H → D.nx σ H) :
    ∃ W : Nat → Nat → L2.St → Hp → Prop, (∃ m, W 0 m σ H) ∧ ∀ i m σ H, W i m σ H →
      ((Iti d o kvs).stop i H ∧ D.nx σ H) ∨ ((Iti d o kvs).go i H ∧ ∃ N : L2.St → Hp → Prop, (∀ σ' H', N σ' H' → ∃ m', m' < m ∧ W (i + 1) m' σ' H') ∧ ∀ x H', (Iti d o kvs).yld i H x H' → g x σ H' fun σ2 H2 => tb { D with nx := N, ct := N, bk := D.nx } σ2 H2) := by
  refine ⟨fun i m σ H => m = kvs.length - i ∧ i ≤ kvs.length ∧ Pv i σ H, ⟨kvs.length, by simp, Nat.zero_le _, h0⟩, ?_⟩
  rintro i m σ H ⟨rfl, hi, p⟩
  have q := hl i σ H p
  by_cases hlt : i < kvs.length
  · refine .inr ⟨⟨q, hlt⟩, Pv (i + 1), fun σ' H' p' => ⟨kvs.length - (i + 1), by omega, rfl, hlt, p'⟩, ?_⟩
    rintro x H' ⟨T, k, v, hk, rfl, hT, rfl⟩
    exact hs i k v σ H T hk p hT
  · have e : i = kvs.length := by omega
    subst e
    exact .inl ⟨⟨q, Nat.le_refl _⟩, hd σ H p⟩
theorem flat_len (l : List VSlot) (g : VSlot → Nat) : ((l.map fun i => [V.int (i.key : Nat), V.int (g i : Nat)]).flatten).length = 2 * l.length := by
  induction l with
  | nil => rfl
  | cons a l ih =>
    rw [List.map_cons, List.flatten_cons, List.length_append, ih, List.length_cons]
    show 2 + 2 * l.length = 2 * (l.length + 1)
    omega
theorem ok_shares_view {f : Addr} {fd : FuncData} (F : Fun K "shares_view" "shares_view" s_shares_view f fd) (O : TH K CH) (B : Bt mg) (T : Tn mg) (D_is_layer : Def P w K mg base "is_layer" 1 ["k"] (spIn 1 Vbchah.LAYERS)) (D_event_refusal : Def P w K mg base "event_refusal" 1 ["house", "in_range"] (spEvRef CH CM)) (D_shares_at : Def P w K mg base "shares_at" 7 ["house", "k", "loss"] (spSharesAt CH CM)) : FnOk P w K mg base CX0 8 f fd ["house", "k"] (spSharesV CH CM) := by
  refine F.ok sc_shares_view (fun vs H Q E h => ?_) (fun cdv A outer st H vs Q E hr h => ?_)
  · obtain ⟨h, s, k, rfl, _⟩ := h
    rfl
  · obtain ⟨h, s, k, rfl, A, an⟩ := h
    refine ⟨_, (pss_cons (ps_set (i := 2) sc_shares_view.nd rfl (Or.inl rfl) (pe_def D_event_refusal (hr.mono (by decide)) (pa_cons (pv 0) (pa_cons (pe_def D_is_layer (hr.mono (by decide)) (pa_cons (pv 1) pa_nil)) pa_nil))))
      (pss_cons (ps_if (pt_cmpR op_ne (pv 2) (pe_num T.c_NO_REFUSAL) (nomark _)) (pss_one (ps_ret (pe_lst (pa_cons (pv 2) pa_nil)))) pss_nil)
      (pss_cons (ps_set (i := 3) sc_shares_view.nd rfl (Or.inl rfl) (pe_def D_shares_at (hr.mono (by decide)) (pa_cons (pv 0) (pa_cons (pv 1) (pa_cons (pe_f (pv 0) rfl) pa_nil)))))
      (pss_cons (ps_set (i := 4) sc_shares_view.nd rfl (Or.inl rfl) (pe_lst (pa_cons (pe_callB call_lenD rfl B.b_len PySem.boot_len (pa_cons (pv 3) pa_nil)) pa_nil)))
      (pss_cons (ps_lock (ps_for PassesOwn.never rfl (pi_items (pv 3)) (pg_tup rfl (pgs_cons (pg_name (i := 5) sc_shares_view.nd rfl (Or.inl rfl)) (pgs_cons (pg_name (i := 6) sc_shares_view.nd rfl (Or.inl rfl)) pgs_nil))) (pss_cons (ps_expr (pe_bm PySem.F.plainAttrs_list PySem.F.slot_list_append PySem.F.type_list_append mt_append (pv 4) (pa_cons (pv 5) pa_nil)))
      (pss_one (ps_expr (pe_bm PySem.F.plainAttrs_list PySem.F.slot_list_append PySem.F.type_list_append mt_append (pv 4) (pa_cons (pv 6) pa_nil)))))))
      (pss_one (ps_ret (pv 4)))))))), ?_⟩
    refine ⟨_, rfl, _, rfl, k, rfl, h, s, _, rfl, A, fun hb => ?_, fun hb he => ?_, fun d n hb he => ?_⟩
    · have e : Vbchah.step s (.shares k) = (s, [-1]) := if_pos hb
      rw [e] at an
      exact ⟨_, rfl, rfl, _, rfl, ifT (by decide) ⟨_, rfl, len1, fun p hp => an.view A (Same.refl _) hp rfl⟩⟩
    · have e : Vbchah.step s (.shares k) = (s, [-7]) := (if_neg (by unfold Vbchah.layered; rw [hb]; exact Bool.noConfusion)).trans (opened_none he)
      rw [e] at an
      exact ⟨_, rfl, rfl, _, rfl, ifT (by decide) ⟨_, rfl, len1, fun p hp => an.view A (Same.refl _) hp rfl⟩⟩
    · obtain ⟨j, ek, ej, j1, j7⟩ := layer_nat (k := k) hb
      have e : Vbchah.step s (.shares k) = (s, Vbchah.ints ((Vbchah.slots s d k.toNat).length :: ((Vbchah.slots s d k.toNat).zip (Vbchah.shares (Vbchah.slots s d k.toNat) (Vbchah.bears s d n k.toNat))).flatMap fun x => [x.1.key, x.2])) := (if_neg (by unfold Vbchah.layered; rw [hb]; exact Bool.noConfusion)).trans (opened_some he)
      rw [e, ej] at an
      subst ek
      have A0 := A.at_ he
      obtain ⟨dx, fs, ho, hl⟩ := A0.lossAt
      have hl12 := slots_len A.wf d j
      have told := shares_told (Vbchah.slots s d j) (Vbchah.bears s d n j)
      generalize hns : Vbchah.ints ((Vbchah.slots s d j).length :: ((Vbchah.slots s d j).zip (Vbchah.shares (Vbchah.slots s d j) (Vbchah.bears s d n j))).flatMap fun x => [x.1.key, x.2]) = ns at an told
      refine ⟨_, rfl, rfl, _, rfl, ifF (by decide) ⟨_, rfl, _, rfl, _, rfl, h, CH, dx, _, _, rfl, ho, O.cl, O.nLo, hl, h, s, d, n, j, n, rfl, A0, j1, j7, A0.n_lt, fun H1 q s1 hq e1 => ?_⟩⟩
      generalize hss : Vbchah.slots s d j = ss at e1 hl12 told
      generalize hbs : Vbchah.bears s d n j = bs at e1 told
      refine ⟨_, rfl, q, _, rfl, e1, len1, fun l hln => ?_⟩
      have hlk : (shareKV ss bs).length = ss.length := by unfold shareKV; rw [List.length_map]
      rw [hlk]
      have e2 : (upd H1 l (.lst [V.int (ss.length : Nat)])) q = some (.dK (shareKV ss bs)) := by rw [upd_ne (ne_of_none e1 hln)]; exact e1
      have nlq : l ≠ q := fun z => by rw [z, e1] at hln; cases hln
      refine ⟨q, _, e2, trivial, fun od => ⟨_, rfl, q, od, _, rfl, upd_same, for_items (fun i σ H' => ∃ v5 v6 : Option V, σ = [some (.ref h), some (.int (j : Nat)), some (.int 0), some (.ref q), some (.ref l), v5, v6] ∧ SameBut l (upd (upd H1 l (.lst [V.int (ss.length : Nat)])) q (.frz od (.dK (shareKV ss bs)))) H' ∧
        H' l = some (.lst (V.int (ss.length : Nat) :: ((ss.take i).map fun i => [V.int (i.key : Nat), V.int (Vbchah.shareOf ss bs i : Nat)]).flatten)))
        ⟨none, none, rfl, SameBut.refl, by rw [upd_ne nlq, upd_same]; rfl⟩ (fun i σ H' ⟨_, _, _, sb, _⟩ => sb _ _ upd_same (fun z => nlq z.symm)) ?_ ?_⟩⟩
      · rintro i kk v σ H' t hkv ⟨v5, v6, rfl, sb, hl2⟩ ht
        obtain ⟨sl0, hsl, e3⟩ : ∃ x, ss[i]? = some x ∧ ((Sum.inl (x.key : Int) : Key), V.int (Vbchah.shareOf ss bs x : Nat)) = (kk, v) := by
          unfold shareKV at hkv
          rw [List.getElem?_map] at hkv
          cases e : ss[i]? with
          | none => rw [e] at hkv; cases hkv
          | some x => rw [e] at hkv; exact ⟨x, rfl, Option.some.inj hkv⟩
        injection e3 with e4 e5
        subst e4 e5
        have ntl : l ≠ t := ne_of_none hl2 ht
        have hl3 : (upd H' t (.tup [V.int (sl0.key : Nat), V.int (Vbchah.shareOf ss bs sl0 : Nat)])) l = some (.lst (V.int (ss.length : Nat) :: ((ss.take i).map fun i => [V.int (i.key : Nat), V.int (Vbchah.shareOf ss bs i : Nat)]).flatten)) := by rw [upd_ne ntl]; exact hl2
        have hfl := flat_len (ss.take i) fun x => Vbchah.shareOf ss bs x
        have htk := List.length_take_le' i ss
        refine ⟨t, _, rfl, SqT.of upd_same, rfl, _, _, rfl, _, _, rfl, rfl, ?_⟩
        refine ⟨_, rfl, .inl ⟨rfl, _, SqL.of hl3⟩, _, rfl, l, _, _, rfl, rfl, hl3, (by rw [List.length_cons, hfl]; exact small1000 (by omega)), ?_⟩
        refine ⟨_, rfl, .inl ⟨rfl, _, SqL.of upd_same⟩, _, rfl, l, _, _, rfl, rfl, upd_same, (by rw [List.length_append, List.length_cons, hfl]; exact small1000 (by show 2 * (ss.take i).length + 1 + 1 ≤ 1000; omega)), ?_⟩
        refine ⟨_, _, rfl, fun b o e nb => ?_, ?_⟩
        · rw [upd_ne nb, upd_ne nb]
          have e6 := sb b o e nb
          rw [upd_ne (ne_of_none e6 ht)]
          exact e6
        · rw [upd_same, take_snoc hsl, List.map_append, List.flatten_append]
          show some (HO.lst _) = _
          simp [List.append_assoc]
          rfl
      · rintro σ H' ⟨v5, v6, rfl, sb, hl2⟩
        rw [hlk, List.take_length] at hl2
        have hq' : H' q = some (.frz od (.dK (shareKV ss bs))) := sb _ _ upd_same (fun z => nlq z.symm)
        refine ⟨hq', _, rfl, ?_⟩
        have sF : Same H (upd H' q (.dK (shareKV ss bs))) := fun b o e => by
          have nb : b ≠ l := ne_of_none (s1 _ _ e) hln
          by_cases hb : b = q
          · rw [hb, hq] at e; cases e
          · rw [upd_ne hb]
            refine sb b o ?_ nb
            rw [upd_ne hb, upd_ne nb]
            exact s1 b o e
        refine an _ l (same_keepL sF) (A.same sF) (s1.free hln) ?_
        show _ = some (HO.lst (ns.map V.int))
        rw [upd_ne nlq, hl2, told]
def spPersonV (CH CM : Addr) : Sp := fun vs H Q _ => ∃ (h : Addr) (s : VSt) (key : Int), vs = [.ref h, .int key] ∧ HSt CH CM H h s ∧ Ans CH CM H h (Vbchah.step s (.person key)) Q
abbrev s_person_view : Stmt := top 91
theorem sc_person_view : FnScope ["house", "key", "refusal", "k"] ["house", "key"] (defScope s_person_view) := ⟨rfl, rfl, rfl, by decide +kernel, rfl, by decide +kernel, by decide +kernel⟩
theorem ok_person_view {f : Addr} {fd : FuncData} (F : Fun K "person_view" "person_view" s_person_view f fd) (O : TH K CH) (B : Bt mg) (T : Tn mg) (D_is_bearer_key : Def P w K mg base "is_bearer_key" 1 ["key"] (spIn 0 Vbchah.KEY)) (D_event_refusal : Def P w K mg base "event_refusal" 1 ["house", "in_range"] (spEvRef CH CM)) (D_shares_at : Def P w K mg base "shares_at" 7 ["house", "k", "loss"] (spSharesAt CH CM)) : FnOk P w K mg base CX0 8 f fd ["house", "key"] (spPersonV CH CM) := by
  refine F.ok sc_person_view (fun vs H Q E h => ?_) (fun cdv A outer st H vs Q E hr h => ?_)
  · obtain ⟨h, s, key, rfl, _⟩ := h
    rfl
  · obtain ⟨h, s, key, rfl, A, an⟩ := h
    have hu := hu_of hr
    refine ⟨_, (pss_cons (ps_set (i := 2) sc_person_view.nd rfl (Or.inl rfl) (pe_def D_event_refusal (hr.mono (by decide)) (pa_cons (pv 0) (pa_cons (pe_def D_is_bearer_key (hr.mono (by decide)) (pa_cons (pv 1) pa_nil)) pa_nil))))
      (pss_cons (ps_if (pt_cmpR op_ne (pv 2) (pe_num T.c_NO_REFUSAL) (nomark _)) (pss_one (ps_ret (pe_lst (pa_cons (pv 2) pa_nil)))) pss_nil)
      (pss_cons (ps_if (pw_and (pt_cmpR op_ne (pv 1) (pe_num T.c_HOUSE_KEY) (nomark _)) (pw_and1 (pt_cmp (pc_dnotin hu (pv 1) (pe_f (pv 0) rfl))))).pt (pss_one (ps_ret (pe_lst (pa_cons (pe_num T.c_NO_MEMBER) pa_nil)))) pss_nil)
      (pss_one (ps_ret (pe_lst (pa_cons (pe_callB (cr_sum rfl) rfl B.b_sum boot_sum (pa_cons (pe_lc rfl sc_person_view.nd (pi_range2 rfl B.b_range (pa_cons pe_int (pa_cons (pe_op op_add (pe_num T.c_LAST_LAYER) pe_int) pa_nil))) (blkOk_by (own := [("k", 3)]) rfl) (fun _ _ _ _ _ => pg_name (i := 3) sc_person_view.nd rfl (Or.inl rfl)) (fun _ _ _ _ _ => pts_nil) (fun _ _ _ _ _ => (pe_dget2 hu (pe_def D_shares_at (hr.mono (by decide)) (pa_cons (pv 0) (pa_cons (pv 3) (pa_cons (pe_f (pv 0) rfl) pa_nil)))) (pv 1) pe_int ⟨rfl, rfl, rfl, rfl⟩))) pa_nil)) pa_nil))))))), ?_⟩
    refine ⟨_, rfl, _, rfl, key, rfl, h, s, _, rfl, A, fun hb => ?_, fun hb he => ?_, fun d n hb he => ?_⟩
    · have e : Vbchah.step s (.person key) = (s, [-1]) := if_pos hb
      rw [e] at an
      exact ⟨_, rfl, rfl, _, rfl, ifT (by decide) ⟨_, rfl, len1, fun p hp => an.view A (Same.refl _) hp rfl⟩⟩
    · have e : Vbchah.step s (.person key) = (s, [-7]) := (if_neg (by rw [hb]; exact Bool.noConfusion)).trans (opened_none he)
      rw [e] at an
      exact ⟨_, rfl, rfl, _, rfl, ifT (by decide) ⟨_, rfl, len1, fun p hp => an.view A (Same.refl _) hp rfl⟩⟩
    · obtain ⟨y, ey, ey2, _, _⟩ := key_nat (Int.le_refl 0) hb
      have e : Vbchah.step s (.person key) = if (key != 0 && (Vbchah.memberAt s key.toNat).isNone) = true then (s, [-4]) else (s, Vbchah.ints [Vbchah.personOf s d n key.toNat]) := (if_neg (by rw [hb]; exact Bool.noConfusion)).trans (opened_some he)
      rw [e, ey2] at an
      subst ey
      have A0 := A.at_ he
      obtain ⟨md, ms, dv, ls, A1⟩ := A.ex
      obtain ⟨dx, ho⟩ := A1.obj
      refine ⟨_, rfl, rfl, _, rfl, ifF (by decide) ⟨_, rfl, rfl, _, rfl, ?_⟩⟩
      have hm := mem_isSome A1 A.wf y
      rw [dec_nat (b := 0) (c := 0) rfl]
      have hne : ((y : Int) != 0) = !decide (y = 0) := by
        rw [bne, Bool.beq_eq_decide_eq]
        congr 1
        exact decide_eq_decide.mpr ⟨fun z => by omega, fun z => by omega⟩
      rw [hne] at an
      cases hc : (!decide (y = 0) && (Vbchah.memberAt s y).isNone) with
      | true =>
        rw [if_pos hc] at an
        rw [Bool.and_eq_true] at hc
        refine ifT hc.1 ⟨_, rfl, _, rfl, h, CH, dx, _, _, rfl, ho, O.cl, O.nMe, hF_members _ _ _ _, md, _, rfl, DGet.k (k := Sum.inl (y : Int)) A1.dict, _, rfl, ifT ?_ ?_⟩
        · rw [hm, ← Option.not_isNone, hc.2]
          rfl
        · exact ⟨len1, fun p hp => an.view A (Same.refl _) hp rfl⟩
      | false =>
        rw [if_neg (by rw [hc]; exact Bool.false_ne_true)] at an
        refine and_false ?_ fun h0 q => ⟨_, rfl, _, rfl, h, CH, dx, _, _, rfl, ho, O.cl, O.nMe, hF_members _ _ _ _, md, _, rfl, DGet.k (k := Sum.inl (y : Int)) A1.dict, _, rfl, ?_⟩
        · refine ifF rfl ⟨_, _, rfl, rfl, 1, 8, rfl, ⟨by decide, by decide, by decide, by decide⟩, fun D hD => lc_rangeP (m := 7) (fun j => .int (Vbchah.partOf s d n (j + 1) y : Nat)) hD (small12 (by decide)) (fun j hj H' s5 Q0 q0 => ?_) fun H' s5 hDH => ?_⟩
          · have ej : (1 : Int) + ((j : Nat) : Int) = ((j + 1 : Nat) : Int) := by omega
            rw [ej]
            obtain ⟨dy, fs, ho5, hl5⟩ := (A0.same s5).lossAt
            refine ⟨_, rfl, _, rfl, _, rfl, h, CH, dy, _, _, rfl, ho5, O.cl, O.nLo, hl5, h, s, d, n, j + 1, n, rfl, A0.same s5, by omega, by omega, A0.n_lt, fun H4 q s4 hq e4 => ⟨q, rfl, .inl ⟨_, .inl e4⟩, _, rfl, _, DGet.k (k := Sum.inl (y : Int)) e4, ?_⟩⟩
            have eg : (valV (shareKV (Vbchah.slots s d (j + 1)) (Vbchah.bears s d n (j + 1))) (Sum.inl (y : Int))).getD (.int 0) = V.int (Vbchah.partOf s d n (j + 1) y : Nat) := by
              rw [part_find]
              unfold Vbchah.partOf
              cases Vbchah.slotOf s d (j + 1) y with
              | none => rfl
              | some i => rfl
            rw [eg]
            exact q0 H4 s4
          · refine ⟨D, (List.range 7).map fun j => ((Vbchah.partOf s d n (j + 1) y : Nat) : Int), rfl, SqL.of (by rw [hDH, List.map_map]; rfl), ?_⟩
            rw [sum_int fun j => Vbchah.partOf s d n (j + 1) y]
            exact ⟨len1, fun p hp => an.view A s5 hp rfl⟩
        · have : (Vbchah.memberAt s y).isNone = false := by
            rw [h0, Bool.true_and] at hc
            exact hc
          rw [hm, ← Option.not_isNone, this]
          exact q
abbrev s_fair_share : Stmt := top 93
theorem sc_fair_share : FnScope ["house", "k", "key", "weights"] ["house", "k", "key"] (defScope s_fair_share) := ⟨rfl, rfl, rfl, by decide +kernel, rfl, by decide +kernel, by decide +kernel⟩
def fairOf (s : VSt) (d n k : Nat) (i : VSlot) : Nat := if Vbchah.sum ((Vbchah.slots s d k).map fun j => j.weight) = 0 then 0 else Vbchah.bears s d n k * i.weight / Vbchah.sum ((Vbchah.slots s d k).map fun j => j.weight)
def spFairShare (CH CM : Addr) : Sp := fun vs H Q _ => ∃ (h : Addr) (s : VSt) (d n k key : Nat) (i : VSlot), vs = [.ref h, .int (k : Nat), .int (key : Nat)] ∧ HAt CH CM H h s d n ∧ 1 ≤ k ∧ k ≤ 7 ∧ Vbchah.slotOf s d k key = some i ∧
  ∀ H', Same H H' → Q (.int (fairOf s d n k i : Nat)) H'
theorem ok_fair_share {f : Addr} {fd : FuncData} (F : Fun K "fair_share" "fair_share" s_fair_share f fd) (O : TH K CH) (B : TB K C) (D_total_weight : Def P w K mg base "total_weight" 1 ["bearers"] (spWeight C)) (D_bearers_of : Def P w K mg base "bearers_of" 3 ["house", "k"] (spBearers C CH CM)) (D_borne_at : Def P w K mg base "borne_at" 6 ["house", "k", "loss"] (spBorne CH CM)) (D_bearer_of : Def P w K mg base "bearer_of" 4 ["house", "k", "key"] (spBearerOf C CH CM)) : FnOk P w K mg base CX0 7 f fd ["house", "k", "key"] (spFairShare CH CM) := by
  refine F.ok sc_fair_share (fun vs H Q E h => ?_) (fun cdv A outer st H vs Q E hr h => ?_)
  · obtain ⟨h, s, d, n, k, key, i, rfl, _⟩ := h
    rfl
  · obtain ⟨h, s, d, n, k, key, i, rfl, A, k1, k7, hi, q⟩ := h
    refine ⟨_, (pss_cons (ps_set (i := 3) sc_fair_share.nd rfl (Or.inl rfl) (pe_def D_total_weight (hr.mono (by decide)) (pa_cons (pe_def D_bearers_of (hr.mono (by decide)) (pa_cons (pv 0) (pa_cons (pv 1) pa_nil))) pa_nil)))
      (pss_cons (ps_if (pt_cmpR op_eq (pv 3) pe_int (nomark _)) (pss_one (ps_ret pe_int)) pss_nil)
      (pss_one (ps_ret (pe_op op_fdiv (pe_op op_mul (pe_def D_borne_at (hr.mono (by decide)) (pa_cons (pv 0) (pa_cons (pv 1) (pa_cons (pe_f (pv 0) rfl) pa_nil)))) (pe_f (pe_def D_bearer_of (hr.mono (by decide)) (pa_cons (pv 0) (pa_cons (pv 1) (pa_cons (pv 2) pa_nil)))) rfl)) (pv 3)))))), ?_⟩
    refine ⟨_, rfl, _, rfl, h, s, d, n, k, rfl, A, k1, k7, fun H1 p zs s1 L es => ⟨p, zs, rfl, L, ?_, fun H2 s2 => ?_⟩⟩
    · have := slots_len A.wf d k
      rw [← es, List.length_map] at this
      exact this
    · rw [es]
      have S := slots_sm A.wf d k
      have hW := wsum_small S
      have ew : Vbchah.sum ((Vbchah.slots s d k).map fun j => j.weight) = wsum (Vbchah.slots s d k) := rfl
      unfold fairOf at q
      rw [ew] at q
      have A2 := (A.same s1).same s2
      refine ⟨_, rfl, rfl, _, rfl, ?_⟩
      rw [dec_nat (b := 0) (c := 0) rfl]
      refine ite2 (fun z => ?_) fun z => ?_
      · rw [if_pos (of_decide_eq_true z)] at q
        exact q H2 (s1.trans s2)
      · have z : ¬ wsum (Vbchah.slots s d k) = 0 := fun y => z (decide_eq_true y)
        rw [if_neg z] at q
        obtain ⟨dx, fs, ho, hl⟩ := A2.lossAt
        refine ⟨_, rfl, _, rfl, _, rfl, h, CH, dx, _, _, rfl, ho, O.cl, O.nLo, hl, h, s, d, n, k, n, rfl, A2, k1, k7, fun H3 s3 => ⟨_, rfl, _, rfl, _, rfl, h, s, d, n, k, key, rfl, A2.same s3, k1, k7, fun H4 s4 e => ?_, fun H4 x t s4 e bx => ?_⟩⟩
        · rw [hi] at e
          cases e
        · rw [hi] at e
          have e := Option.some.inj e
          subst e
          obtain ⟨dy, hx⟩ := bx
          have hb : Vbchah.bears s d n k ≤ n := Nat.le_trans (Nat.min_le_right _ _) (Nat.sub_le _ _)
          have hn := A.n_lt
          refine ⟨x, C, dy, _, _, rfl, hx, B.cl, B.nW, bF_weight _, _, _, rfl, rfl, .inl ⟨by omega, by omega⟩, _, rfl, _, _, rfl, rfl, ⟨by omega, by omega⟩, ?_⟩
          try dsimp only
          rw [← Int.natCast_mul, ← Int.natCast_ediv]
          exact q H4 (((s1.trans s2).trans s3).trans s4)
def spFairV (CH CM : Addr) : Sp := fun vs H Q _ => ∃ (h : Addr) (s : VSt) (k : Int) (key : Int), vs = [.ref h, .int k, .int key] ∧ HSt CH CM H h s ∧ Ans CH CM H h (Vbchah.step s (.fair k key)) Q
abbrev s_fair_view : Stmt := top 92
theorem sc_fair_view : FnScope ["house", "k", "key", "refusal"] ["house", "k", "key"] (defScope s_fair_view) := ⟨rfl, rfl, rfl, by decide +kernel, rfl, by decide +kernel, by decide +kernel⟩
theorem ok_fair_view {f : Addr} {fd : FuncData} (F : Fun K "fair_view" "fair_view" s_fair_view f fd) (O : TH K CH) (T : Tn mg) (D_is_layer : Def P w K mg base "is_layer" 1 ["k"] (spIn 1 Vbchah.LAYERS)) (D_is_bearer_key : Def P w K mg base "is_bearer_key" 1 ["key"] (spIn 0 Vbchah.KEY)) (D_bearer_refusal : Def P w K mg base "bearer_refusal" 5 ["house", "in_range", "k", "key"] (spBRef C CH CM)) (D_share_at : Def P w K mg base "share_at" 8 ["house", "k", "key", "loss"] (spShareAt CH CM)) (D_fair_share : Def P w K mg base "fair_share" 7 ["house", "k", "key"] (spFairShare CH CM)) : FnOk P w K mg base CX0 9 f fd ["house", "k", "key"] (spFairV CH CM) := by
  refine F.ok sc_fair_view (fun vs H Q E h => ?_) (fun cdv A outer st H vs Q E hr h => ?_)
  · obtain ⟨h, s, k, key, rfl, _⟩ := h
    rfl
  · obtain ⟨h, s, k, key, rfl, A, an⟩ := h
    refine ⟨_, (pss_cons (ps_set (i := 3) sc_fair_view.nd rfl (Or.inl rfl) (pe_def D_bearer_refusal (hr.mono (by decide)) (pa_cons (pv 0) (pa_cons (pe_and (pe_def D_is_layer (hr.mono (by decide)) (pa_cons (pv 1) pa_nil)) (pe_one (pe_def D_is_bearer_key (hr.mono (by decide)) (pa_cons (pv 2) pa_nil)))) (pa_cons (pv 1) (pa_cons (pv 2) pa_nil))))))
      (pss_cons (ps_if (pt_cmpR op_ne (pv 3) (pe_num T.c_NO_REFUSAL) (nomark _)) (pss_one (ps_ret (pe_lst (pa_cons (pv 3) pa_nil)))) pss_nil)
      (pss_one (ps_ret (pe_lst (pa_cons (pe_def D_share_at (hr.mono (by decide)) (pa_cons (pv 0) (pa_cons (pv 1) (pa_cons (pv 2) (pa_cons (pe_f (pv 0) rfl) pa_nil))))) (pa_cons (pe_def D_fair_share (hr.mono (by decide)) (pa_cons (pv 0) (pa_cons (pv 1) (pa_cons (pv 2) pa_nil)))) pa_nil))))))), ?_⟩
    refine ⟨_, rfl, _, rfl, k, rfl, _, rfl, ite2 (fun h1 => ?_) fun h1 => ?_⟩
    · refine ⟨_, rfl, key, rfl, _, rfl, _, rfl, h, s, _, k, key, rfl, A, fun h2 => ⟨h1, h2⟩, fun h2 => ?_, fun h2 he => ?_, fun d n H1 h2 he hs s1 => ?_, fun d n i H1 h2 he hs s1 => ?_⟩
      · have e : Vbchah.step s (.fair k key) = (s, [-1]) := borne_bad (.inr h2)
        rw [e] at an
        exact ⟨_, rfl, rfl, _, rfl, ifT (by decide) ⟨_, rfl, len1, fun p hp => an.view A (Same.refl _) hp rfl⟩⟩
      · have e : Vbchah.step s (.fair k key) = (s, [-7]) := borne_none h1 h2 he
        rw [e] at an
        exact ⟨_, rfl, rfl, _, rfl, ifT (by decide) ⟨_, rfl, len1, fun p hp => an.view A (Same.refl _) hp rfl⟩⟩
      · have e : Vbchah.step s (.fair k key) = (s, [-8]) := borne_no h1 h2 he hs
        rw [e] at an
        exact ⟨_, rfl, rfl, _, rfl, ifT (by decide) ⟨_, rfl, len1, fun p hp => an.view A s1 hp rfl⟩⟩
      · have e : Vbchah.step s (.fair k key) = (s, Vbchah.ints [Vbchah.partOf s d n k.toNat key.toNat, fairOf s d n k.toNat i]) := borne_yes h1 h2 he hs
        obtain ⟨j, ek, ej, j1, j7⟩ := layer_nat (k := k) h1
        obtain ⟨y, ey, ey2, _, _⟩ := key_nat (Int.le_refl 0) h2
        rw [ej, ey2] at hs
        rw [e, ej, ey2] at an
        subst ek ey
        have A1 := (A.at_ he).same s1
        obtain ⟨dx, fs, ho, hl⟩ := A1.lossAt
        exact ⟨_, rfl, rfl, _, rfl, ifF (by decide) ⟨_, rfl, _, rfl, _, rfl, _, rfl, h, CH, dx, _, _, rfl, ho, O.cl, O.nLo, hl, h, s, d, n, j, y, n, i, rfl, A1, j1, j7, A1.n_lt, hs, fun H2 s2 => ⟨_, rfl, _, rfl, _, rfl, h, s, d, n, j, y, i, rfl, A1.same s2, j1, j7, hs, fun H3 s3 => ⟨len2, fun p hp => an.view A ((s1.trans s2).trans s3) hp rfl⟩⟩⟩⟩
    · refine ⟨_, rfl, _, rfl, h, s, _, k, key, rfl, A, fun h2 => (nomatch h2), fun _ => ?_, fun h2 => (nomatch h2), fun d n H1 h2 => (nomatch h2), fun d n i H1 h2 => (nomatch h2)⟩
      have e : Vbchah.step s (.fair k key) = (s, [-1]) := borne_bad (.inl (Bool.eq_false_iff.mpr h1))
      rw [e] at an
      exact ⟨_, rfl, rfl, _, rfl, ifT (by decide) ⟨_, rfl, len1, fun p hp => an.view A (Same.refl _) hp rfl⟩⟩
end
end U
end
section
set_option linter.all false
set_option Elab.async false
set_option linter.all false
set_option maxRecDepth 100000
set_option maxHeartbeats 2000000
namespace U
open PySem PySem.Spec PyProof.Rows L2 L3 Lb
theorem sum_perm {l m : List Nat} (h : l.Perm m) : Vbchah.sum l = Vbchah.sum m := by
  induction h with
  | nil => rfl
  | cons a _ ih => rw [sum_cons, sum_cons, ih]
  | swap a b l => rw [sum_cons, sum_cons, sum_cons, sum_cons]; omega
  | trans _ _ h1 h2 => rw [h1, h2]
section
variable {P : Program} {w : World} {K : PySem.W.Frag} {mg : Str → Option Value} {base : Heap} {C CH CM nob cnt : Addr}
def spHeapsV (CH CM : Addr) : Sp := fun vs H Q _ => ∃ (h : Addr) (s : VSt), vs = [.ref h] ∧ HSt CH CM H h s ∧ Ans CH CM H h (Vbchah.step s (.heaps)) Q
abbrev s_heaps_view : Stmt := top 94
theorem sc_heaps_view : FnScope ["house", "members", "key", "margins", "member", "funds", "gains"] ["house"] (defScope s_heaps_view) := ⟨rfl, rfl, rfl, by decide +kernel, rfl, by decide +kernel, by decide +kernel⟩
theorem memsum {H : Hp} {h : Addr} {s : VSt} {md : Addr} {ms : List (Addr × VMem)} {dv : V} {ls : Int} (A : HouseAt CH CM H h s md ms dv ls) (f : VMem → Nat) : Vbchah.sum (ms.map fun q => f q.2) = Vbchah.amountOf s f := by
  unfold Vbchah.amountOf
  rw [← sum_perm (A.perm.map f), List.map_map]
  rfl
theorem ok_heaps_view {f : Addr} {fd : FuncData} (F : Fun K "heaps_view" "heaps_view" s_heaps_view f fd) (M : TM K CM) (O : TH K CH) (B : Bt mg) : FnOk P w K mg base CX0 1 f fd ["house"] (spHeapsV CH CM) := by
  refine F.ok sc_heaps_view (fun vs H Q E h => ?_) (fun cdv A outer st H vs Q E hr h => ?_)
  · obtain ⟨h, s, rfl, _⟩ := h
    rfl
  · obtain ⟨h, s, rfl, A, an⟩ := h
    have hu := hu_of hr
    obtain ⟨md, ms, dv, ls, A1⟩ := A.ex
    obtain ⟨dx, ho⟩ := A1.obj
    have hlen := A1.len A.wf
    have nmh : h ≠ md := ne_of ho A1.dict (fun z => (nomatch z))
    refine ⟨_, (pss_cons (ps_lock (ps_setLc (i := 1) rfl sc_heaps_view.nd rfl rfl (sw_true rfl rfl rfl rfl) (pi_keys (pe_f (pv 0) rfl)) (blkOk_by (own := [("key", 2)]) rfl) (fun _ _ _ _ _ => pg_name (i := 2) sc_heaps_view.nd rfl (Or.inl rfl)) (fun _ _ _ _ _ => pts_nil) (fun _ _ _ _ _ => (pe_dget hu (pe_f (pv 0) rfl) (pv 2) (fun _ _ => rfl)))))
      (pss_cons (ps_set (i := 3) sc_heaps_view.nd rfl (Or.inl rfl) (pe_callB (cr_sum rfl) rfl B.b_sum boot_sum (pa_cons (pe_lc rfl sc_heaps_view.nd (pi_list (pv 1)) (blkOk_by (own := [("member", 4)]) rfl) (fun _ _ _ _ _ => pg_name (i := 4) sc_heaps_view.nd rfl (Or.inl rfl)) (fun _ _ _ _ _ => pts_nil) (fun _ _ _ _ _ => (pe_f (pv 4) rfl))) pa_nil)))
      (pss_cons (ps_set (i := 5) sc_heaps_view.nd rfl (Or.inl rfl) (pe_callB (cr_sum rfl) rfl B.b_sum boot_sum (pa_cons (pe_lc rfl sc_heaps_view.nd (pi_list (pv 1)) (blkOk_by (own := [("member", 4)]) rfl) (fun _ _ _ _ _ => pg_name (i := 4) sc_heaps_view.nd rfl (Or.inl rfl)) (fun _ _ _ _ _ => pts_nil) (fun _ _ _ _ _ => (pe_f (pv 4) rfl))) pa_nil)))
      (pss_cons (ps_set (i := 6) sc_heaps_view.nd rfl (Or.inl rfl) (pe_callB (cr_sum rfl) rfl B.b_sum boot_sum (pa_cons (pe_lc rfl sc_heaps_view.nd (pi_list (pv 1)) (blkOk_by (own := [("member", 4)]) rfl) (fun _ _ _ _ _ => pg_name (i := 4) sc_heaps_view.nd rfl (Or.inl rfl)) (fun _ _ _ _ _ => pts_nil) (fun _ _ _ _ _ => (pe_f (pv 4) rfl))) pa_nil)))
      (pss_one (ps_ret (pe_lst (pa_cons (pv 3) (pa_cons (pv 5) (pa_cons (pv 6) (pa_cons (pe_f (pv 0) rfl) (pa_cons (pe_f (pv 0) rfl) (pa_cons (pe_f (pv 0) rfl) (pa_cons (pe_f (pv 0) rfl) pa_nil)))))))))))))), ?_⟩
    refine ⟨md, _, A1.dict, trivial, fun od => ?_⟩
    have ho1 : (upd H md (.frz od (.dK (memKV ms)))) h = some (.ins CH dx (hF md s dv ls)) := by rw [upd_ne nmh]; exact ho
    refine ⟨_, rfl, h, CH, dx, _, _, rfl, ho1, O.cl, O.nMe, hF_members _ _ _ _, md, od, rfl, .inl ⟨_, upd_same, fun D hD => lc_keysP (fun q : Addr × VMem => ((q.2.key : Nat) : Int)) (zs := ms) (fun _ => true) (fun q => V.ref q.1) (by rw [List.map_map]; rfl) hD upd_same (small12 hlen) (fun _ _ _ _ _ q => q) (fun z hz _ H' s5 Q0 q0 => ?_) fun H3 s3 hD3 => ?_⟩⟩
    · exact ⟨_, rfl, h, CH, dx, _, _, rfl, s5 _ _ ho1, O.cl, O.nMe, hF_members _ _ _ _, _, rfl, md, _, rfl, dget_frz (k := Sum.inl (z.2.key : Int)) (s5 _ _ upd_same) (valV_mem (A1.keysNd A.wf) z hz), q0 _ (Same.refl _)⟩
    · refine ⟨s3 _ _ upd_same, ?_⟩
      have sU : Same H (upd H3 md (.dK (memKV ms))) := same_unlock A1.dict s3
      generalize hH2 : upd H3 md (.dK (memKV ms)) = H2 at sU
      have hD4 : H2 D = some (.lst (ms.map fun q => V.ref q.1)) := by
        rw [← hH2, upd_ne (ne_of hD3 (s3 _ _ upd_same) (fun z => (nomatch z))), hD3, filt_true]
      have A2 := A1.same sU
      have one : ∀ (f : VMem → Nat) (H4 : Hp), Same H2 H4 → (Q0 : VK) → (∀ H5, Same H4 H5 → Q0 (.int (Vbchah.amountOf s f : Nat)) H5) → True := fun _ _ _ _ _ => trivial
      refine ⟨_, rfl, D, rfl, ⟨_, SqL.of hD4⟩, fun D1 hD1 => lc_pure (fun z : Addr × VMem => V.ref z.1) (fun _ => true) (fun z => .int (z.2.margin : Nat)) hD1 (SqL.of hD4) (small12 hlen) (fun _ _ _ _ _ q => q) (fun z hz _ H' s5 Q0 q0 => ?_) fun H5 s5 hDH => ?_⟩
      · obtain ⟨dz, ez⟩ := A2.mems z hz
        exact ⟨_, rfl, z.1, CM, dz, _, _, rfl, s5 _ _ ez, M.cl, M.nMa, mF_margin _, q0 _ (Same.refl _)⟩
      refine ⟨D1, ms.map fun z => ((z.2.margin : Nat) : Int), rfl, SqL.of (by rw [hDH, filt_true, List.map_map]; rfl), ?_⟩
      rw [sum_int fun z : Addr × VMem => z.2.margin, memsum A1 fun m => m.margin]
      refine ⟨_, rfl, D, rfl, ⟨_, SqL.of (s5 _ _ hD4)⟩, fun D2 hD2 => lc_pure (fun z : Addr × VMem => V.ref z.1) (fun _ => true) (fun z => .int (z.2.fund : Nat)) hD2 (SqL.of (s5 _ _ hD4)) (small12 hlen) (fun _ _ _ _ _ q => q) (fun z hz _ H' s6 Q0 q0 => ?_) fun H6 s6 hDH2 => ?_⟩
      · obtain ⟨dz, ez⟩ := A2.mems z hz
        exact ⟨_, rfl, z.1, CM, dz, _, _, rfl, s6 _ _ (s5 _ _ ez), M.cl, M.nF, mF_fund _, q0 _ (Same.refl _)⟩
      refine ⟨D2, ms.map fun z => ((z.2.fund : Nat) : Int), rfl, SqL.of (by rw [hDH2, filt_true, List.map_map]; rfl), ?_⟩
      rw [sum_int fun z : Addr × VMem => z.2.fund, memsum A1 fun m => m.fund]
      refine ⟨_, rfl, D, rfl, ⟨_, SqL.of (s6 _ _ (s5 _ _ hD4))⟩, fun D3 hD3' => lc_pure (fun z : Addr × VMem => V.ref z.1) (fun _ => true) (fun z => .int (z.2.gain : Nat)) hD3' (SqL.of (s6 _ _ (s5 _ _ hD4))) (small12 hlen) (fun _ _ _ _ _ q => q) (fun z hz _ H' s7 Q0 q0 => ?_) fun H7 s7 hDH3 => ?_⟩
      · obtain ⟨dz, ez⟩ := A2.mems z hz
        exact ⟨_, rfl, z.1, CM, dz, _, _, rfl, s7 _ _ (s6 _ _ (s5 _ _ ez)), M.cl, M.nG, mF_gain _, q0 _ (Same.refl _)⟩
      refine ⟨D3, ms.map fun z => ((z.2.gain : Nat) : Int), rfl, SqL.of (by rw [hDH3, filt_true, List.map_map]; rfl), ?_⟩
      rw [sum_int fun z : Addr × VMem => z.2.gain, memsum A1 fun m => m.gain]
      have sA : Same H H7 := ((sU.trans s5).trans s6).trans s7
      have ho7 := sA _ _ ho
      exact ⟨_, rfl, _, rfl, _, rfl, _, rfl, h, CH, dx, _, _, rfl, ho7, O.cl, O.nF, hF_first _ _ _ _, _, rfl, h, CH, dx, _, _, rfl, ho7, O.cl, O.nL, hF_last _ _ _ _, _, rfl, h, CH, dx, _, _, rfl, ho7, O.cl, O.nC, hF_called _ _ _ _, _, rfl, h, CH, dx, _, _, rfl, ho7, O.cl, O.nU, hF_unpaid _ _ _ _, (by show 7 ≤ sizeLine; decide), fun p hp => an.view A sA hp rfl⟩
def spMembersV (CH CM : Addr) : Sp := fun vs H Q _ => ∃ (h : Addr) (s : VSt), vs = [.ref h] ∧ HSt CH CM H h s ∧ Ans CH CM H h (Vbchah.step s (.members)) Q
abbrev s_members_view : Stmt := top 95
theorem sc_members_view : FnScope ["house"] ["house"] (defScope s_members_view) := ⟨rfl, rfl, rfl, by decide +kernel, rfl, by decide +kernel, by decide +kernel⟩
theorem ok_members_view {f : Addr} {fd : FuncData} (F : Fun K "members_view" "members_view" s_members_view f fd) (O : TH K CH) (B : Bt mg) : FnOk P w K mg base CX0 1 f fd ["house"] (spMembersV CH CM) := by
  refine F.ok sc_members_view (fun vs H Q E h => ?_) (fun cdv A outer st H vs Q E hr h => ?_)
  · obtain ⟨h, s, rfl, _⟩ := h
    rfl
  · obtain ⟨h, s, rfl, A, an⟩ := h
    obtain ⟨md, ms, dv, ls, A1⟩ := A.ex
    obtain ⟨dx, ho⟩ := A1.obj
    have hlen := A1.len A.wf
    have hl2 : ms.length = s.members.length := by have := A1.perm.length_eq; rwa [List.length_map] at this
    refine ⟨_, (pss_one (ps_ret (pe_op op_cat (pe_lst (pa_cons (pe_callB call_lenD rfl B.b_len PySem.boot_len (pa_cons (pe_f (pv 0) rfl) pa_nil)) pa_nil)) (pe_callB (cr_sortedD rfl) rfl B.b_sorted boot_sorted (pa_cons (pe_f (pv 0) rfl) pa_nil))))), ?_⟩
    refine ⟨_, rfl, h, CH, dx, _, _, rfl, ho, O.cl, O.nMe, hF_members _ _ _ _, md, _, rfl, A1.dict, len1, fun l hl => ?_⟩
    have s1 : Same H (upd H l (.lst [V.int ((memKV ms).length : Nat)])) := Same.new hl
    refine ⟨_, rfl, h, CH, dx, _, _, rfl, s1 _ _ ho, O.cl, O.nMe, hF_members _ _ _ _, md, _, ms.map fun q => ((q.2.key : Nat) : Int), rfl, s1 _ _ A1.dict, (by rw [List.map_map, List.map_map]; rfl), (by rw [List.length_map]; omega), fun ns' p hp hpw hpn => ?_⟩
    have ens : ns' = s.members.map fun m => ((m.key : Nat) : Int) := by
      refine List.Perm.eq_of_pairwise (le := (· ≤ ·)) (fun a b _ _ h1 h2 => Int.le_antisymm h1 h2) hpw ?_ ?_
      · rw [List.pairwise_map]
        exact A.wf.rising.imp fun z => by omega
      · refine hp.trans ?_
        have := A1.perm.map fun m : VMem => ((m.key : Nat) : Int)
        rw [List.map_map] at this
        exact this
    subst ens
    have hl3 : (upd (upd H l (.lst [V.int ((memKV ms).length : Nat)])) p (.lst ((s.members.map fun m => ((m.key : Nat) : Int)).map V.int))) l = some (.lst [V.int ((memKV ms).length : Nat)]) := by
      rw [upd_ne (ne_of_none upd_same hpn), upd_same]
    refine ⟨l, p, _, _, rfl, rfl, hl3, upd_same, ?_, fun r hr2 => ?_⟩
    · show 1 + ((s.members.map fun m => ((m.key : Nat) : Int)).map V.int).length ≤ sizeLine
      rw [List.length_map, List.length_map, ← hl2]
      exact Nat.le_of_lt (small1000 (by omega))
    · refine an.view A (s1.trans (Same.new hpn)) hr2 ?_
      have e1 : (memKV ms).length = s.members.length := by rw [List.length_map]; exact hl2
      try dsimp only
      rw [e1]
      show _ :: _ = V.int _ :: ((s.members.map fun m => m.key).map fun n : Nat => (n : Int)).map V.int
      rw [List.map_map (l := s.members) (f := fun m => m.key)]
      rfl
end
end U
end
section
set_option linter.all false
set_option Elab.async false
set_option linter.all false
set_option maxRecDepth 100000
set_option maxHeartbeats 2000000
namespace U
open PySem PySem.Spec PyProof.Rows L2 L3 Lb
section
variable {P : Program} {w : World} {K : PySem.W.Frag} {mg : Str → Option Value} {base : Heap} {C CH CM nob cnt : Addr}
def spWhoV (CH CM : Addr) : Sp := fun vs H Q _ => ∃ (h : Addr) (s : VSt) (u : Int), vs = [.ref h, .int u] ∧ HSt CH CM H h s ∧ Ans CH CM H h (Vbchah.step s (.who u)) Q
abbrev s_who_view : Stmt := top 81
theorem sc_who_view : FnScope ["house", "unit", "refusal"] ["house", "unit"] (defScope s_who_view) := ⟨rfl, rfl, rfl, by decide +kernel, rfl, by decide +kernel, by decide +kernel⟩
theorem ok_who_view {f : Addr} {fd : FuncData} (F : Fun K "who_view" "who_view" s_who_view f fd) (B : Bt mg) (T : Tn mg) (D_is_some_units : Def P w K mg base "is_some_units" 1 ["amount"] (spIn 1 Vbchah.LOSS)) (D_event_refusal : Def P w K mg base "event_refusal" 1 ["house", "in_range"] (spEvRef CH CM)) (D_taker_of_unit : Def P w K mg base "taker_of_unit" 7 ["house", "unit"] (spTakerU K CH CM)) : FnOk P w K mg base CX0 8 f fd ["house", "unit"] (spWhoV CH CM) := by
  refine F.ok sc_who_view (fun vs H Q E h => ?_) (fun cdv A outer st H vs Q E hr h => ?_)
  · obtain ⟨h, s, u, rfl, _⟩ := h
    rfl
  · obtain ⟨h, s, u, rfl, A, an⟩ := h
    refine ⟨_, (pss_cons (ps_set (i := 2) sc_who_view.nd rfl (Or.inl rfl) (pe_def D_event_refusal (hr.mono (by decide)) (pa_cons (pv 0) (pa_cons (pe_def D_is_some_units (hr.mono (by decide)) (pa_cons (pv 1) pa_nil)) pa_nil))))
      (pss_cons (ps_if (pt_cmpR op_ne (pv 2) (pe_num T.c_NO_REFUSAL) (nomark _)) (pss_one (ps_ret (pe_lst (pa_cons (pv 2) pa_nil)))) pss_nil)
      (pss_one (ps_ret (pe_callTy call_list_of rfl B.b_list boot_list (pa_cons (pe_def D_taker_of_unit (hr.mono (by decide)) (pa_cons (pv 0) (pa_cons (pv 1) pa_nil))) pa_nil)))))), ?_⟩
    refine ⟨_, rfl, _, rfl, u, rfl, h, s, _, rfl, A, fun hb => ?_, fun hb he => ?_, fun d n hb he => ?_⟩
    · have e : Vbchah.step s (.who u) = (s, [-1]) := if_pos hb
      rw [e] at an
      exact ⟨_, rfl, rfl, _, rfl, ifT (by decide) ⟨_, rfl, len1, fun p hp => an.view A (Same.refl _) hp rfl⟩⟩
    · have e : Vbchah.step s (.who u) = (s, [-7]) := (if_neg (by rw [hb]; exact Bool.noConfusion)).trans (opened_none he)
      rw [e] at an
      exact ⟨_, rfl, rfl, _, rfl, ifT (by decide) ⟨_, rfl, len1, fun p hp => an.view A (Same.refl _) hp rfl⟩⟩
    · obtain ⟨j, ek, ej, j1, j2⟩ := key_nat (by decide) hb
      have e : Vbchah.step s (.who u) = (s, Vbchah.ints [(Vbchah.bearer s d u.toNat).1, (Vbchah.bearer s d u.toNat).2]) := (if_neg (by rw [hb]; exact Bool.noConfusion)).trans (opened_some he)
      rw [e, ej] at an
      subst ek
      unfold Vbchah.LOSS at j2
      exact ⟨_, rfl, rfl, _, rfl, ifF (by decide) ⟨_, rfl, _, rfl, h, s, d, n, j, rfl, A.at_ he, by omega, by omega, fun H1 p s1 sq => ⟨p, _, rfl, .inr sq, fun l hl => an.view A s1 hl rfl⟩⟩⟩
def spNextV (CH CM : Addr) : Sp := fun vs H Q _ => ∃ (h : Addr) (s : VSt), vs = [.ref h] ∧ HSt CH CM H h s ∧ Ans CH CM H h (Vbchah.step s (.next)) Q
abbrev s_next_view : Stmt := top 82
theorem sc_next_view : FnScope ["house", "refusal"] ["house"] (defScope s_next_view) := ⟨rfl, rfl, rfl, by decide +kernel, rfl, by decide +kernel, by decide +kernel⟩
theorem ok_next_view {f : Addr} {fd : FuncData} (F : Fun K "next_view" "next_view" s_next_view f fd) (O : TH K CH) (B : Bt mg) (T : Tn mg) (D_event_refusal : Def P w K mg base "event_refusal" 1 ["house", "in_range"] (spEvRef CH CM)) (D_taker_of_unit : Def P w K mg base "taker_of_unit" 7 ["house", "unit"] (spTakerU K CH CM)) : FnOk P w K mg base CX0 8 f fd ["house"] (spNextV CH CM) := by
  refine F.ok sc_next_view (fun vs H Q E h => ?_) (fun cdv A outer st H vs Q E hr h => ?_)
  · obtain ⟨h, s, rfl, _⟩ := h
    rfl
  · obtain ⟨h, s, rfl, A, an⟩ := h
    refine ⟨_, (pss_cons (ps_set (i := 1) sc_next_view.nd rfl (Or.inl rfl) (pe_def D_event_refusal (hr.mono (by decide)) (pa_cons (pv 0) (pa_cons pe_bl pa_nil))))
      (pss_cons (ps_if (pt_cmpR op_ne (pv 1) (pe_num T.c_NO_REFUSAL) (nomark _)) (pss_one (ps_ret (pe_lst (pa_cons (pv 1) pa_nil)))) pss_nil)
      (pss_one (ps_ret (pe_callTy call_list_of rfl B.b_list boot_list (pa_cons (pe_def D_taker_of_unit (hr.mono (by decide)) (pa_cons (pv 0) (pa_cons (pe_op op_add (pe_f (pv 0) rfl) pe_int) pa_nil))) pa_nil)))))), ?_⟩
    refine ⟨_, rfl, h, s, _, rfl, A, fun hb => (nomatch hb), fun hb he => ?_, fun d n hb he => ?_⟩
    · have e : Vbchah.step s .next = (s, [-7]) := opened_none (g := fun d n => (s, Vbchah.ints [(Vbchah.bearer s d (n + 1)).1, (Vbchah.bearer s d (n + 1)).2])) he
      rw [e] at an
      exact ⟨_, rfl, rfl, _, rfl, ifT (by decide) ⟨_, rfl, len1, fun p hp => an.view A (Same.refl _) hp rfl⟩⟩
    · have e : Vbchah.step s .next = (s, Vbchah.ints [(Vbchah.bearer s d (n + 1)).1, (Vbchah.bearer s d (n + 1)).2]) := opened_some (g := fun d n => (s, Vbchah.ints [(Vbchah.bearer s d (n + 1)).1, (Vbchah.bearer s d (n + 1)).2])) he
      rw [e] at an
      have A0 := A.at_ he
      obtain ⟨dx, fs, ho, hl⟩ := A0.lossAt
      have hn : n ≤ Vbchah.LOSS := (A.wf.ev _ he).2
      unfold Vbchah.LOSS at hn
      exact ⟨_, rfl, rfl, _, rfl, ifF (by decide) ⟨_, rfl, _, rfl, h, CH, dx, _, _, rfl, ho, O.cl, O.nLo, hl, _, _, rfl, rfl, h, s, d, n, n + 1, rfl, A0, by omega, by omega, fun H1 p s1 sq => ⟨p, _, rfl, .inr sq, fun l hl => an.view A s1 hl rfl⟩⟩⟩
def spAtV (CH CM : Addr) : Sp := fun vs H Q _ => ∃ (h : Addr) (s : VSt) (m : Int) (k : Int) (key : Int), vs = [.ref h, .int m, .int k, .int key] ∧ HSt CH CM H h s ∧ Ans CH CM H h (Vbchah.step s (.at_ m k key)) Q
abbrev s_at_view : Stmt := top 83
theorem sc_at_view : FnScope ["house", "loss", "k", "key", "in_range", "refusal"] ["house", "loss", "k", "key"] (defScope s_at_view) := ⟨rfl, rfl, rfl, by decide +kernel, rfl, by decide +kernel, by decide +kernel⟩
theorem ok_at_view {f : Addr} {fd : FuncData} (F : Fun K "at_view" "at_view" s_at_view f fd) (T : Tn mg) (D_is_loss : Def P w K mg base "is_loss" 1 ["amount"] (spIn 0 Vbchah.LOSS)) (D_is_layer : Def P w K mg base "is_layer" 1 ["k"] (spIn 1 Vbchah.LAYERS)) (D_is_bearer_key : Def P w K mg base "is_bearer_key" 1 ["key"] (spIn 0 Vbchah.KEY)) (D_bearer_refusal : Def P w K mg base "bearer_refusal" 5 ["house", "in_range", "k", "key"] (spBRef C CH CM)) (D_share_at : Def P w K mg base "share_at" 8 ["house", "k", "key", "loss"] (spShareAt CH CM)) : FnOk P w K mg base CX0 9 f fd ["house", "loss", "k", "key"] (spAtV CH CM) := by
  refine F.ok sc_at_view (fun vs H Q E h => ?_) (fun cdv A outer st H vs Q E hr h => ?_)
  · obtain ⟨h, s, m, k, key, rfl, _⟩ := h
    rfl
  · obtain ⟨h, s, m, k, key, rfl, A, an⟩ := h
    refine ⟨_, (pss_cons (ps_set (i := 4) sc_at_view.nd rfl (Or.inl rfl) (pe_and (pe_def D_is_loss (hr.mono (by decide)) (pa_cons (pv 1) pa_nil)) (pe_and (pe_def D_is_layer (hr.mono (by decide)) (pa_cons (pv 2) pa_nil)) (pe_one (pe_def D_is_bearer_key (hr.mono (by decide)) (pa_cons (pv 3) pa_nil))))))
      (pss_cons (ps_set (i := 5) sc_at_view.nd rfl (Or.inl rfl) (pe_def D_bearer_refusal (hr.mono (by decide)) (pa_cons (pv 0) (pa_cons (pv 4) (pa_cons (pv 2) (pa_cons (pv 3) pa_nil))))))
      (pss_cons (ps_if (pt_cmpR op_ne (pv 5) (pe_num T.c_NO_REFUSAL) (nomark _)) (pss_one (ps_ret (pe_lst (pa_cons (pv 5) pa_nil)))) pss_nil)
      (pss_one (ps_ret (pe_lst (pa_cons (pe_def D_share_at (hr.mono (by decide)) (pa_cons (pv 0) (pa_cons (pv 2) (pa_cons (pv 3) (pa_cons (pv 1) pa_nil))))) pa_nil))))))), ?_⟩
    refine ⟨_, rfl, m, rfl, _, rfl, ite2 (fun h0 => ⟨_, rfl, k, rfl, _, rfl, ite2 (fun h1 => ?_) fun h1 => ?_⟩) fun h0 => ?_⟩
    · have g0 : ∀ {x : VSt × List Int}, Vbchah.borneBy s k key (fun d _ _ => (s, Vbchah.ints [Vbchah.partOf s d m.toNat k.toNat key.toNat])) = x → Vbchah.step s (.at_ m k key) = x := fun e => (if_neg (by rw [h0]; exact Bool.noConfusion)).trans e
      refine ⟨_, rfl, key, rfl, _, rfl, _, rfl, _, rfl, _, rfl, h, s, _, k, key, rfl, A, fun h2 => ⟨h1, h2⟩, fun h2 => ?_, fun h2 he => ?_, fun d n H1 h2 he hs s1 => ?_, fun d n i H1 h2 he hs s1 => ?_⟩
      · rw [g0 (borne_bad (.inr h2))] at an
        exact ⟨_, rfl, rfl, _, rfl, ifT (by decide) ⟨_, rfl, len1, fun p hp => an.view A (Same.refl _) hp rfl⟩⟩
      · rw [g0 (borne_none h1 h2 he)] at an
        exact ⟨_, rfl, rfl, _, rfl, ifT (by decide) ⟨_, rfl, len1, fun p hp => an.view A (Same.refl _) hp rfl⟩⟩
      · rw [g0 (borne_no h1 h2 he hs)] at an
        exact ⟨_, rfl, rfl, _, rfl, ifT (by decide) ⟨_, rfl, len1, fun p hp => an.view A s1 hp rfl⟩⟩
      · rw [g0 (borne_yes h1 h2 he hs)] at an
        obtain ⟨j, ek, ej, j1, j7⟩ := layer_nat (k := k) h1
        obtain ⟨y, ey, ey2, _, _⟩ := key_nat (Int.le_refl 0) h2
        obtain ⟨z, ez, ez2, _, hz⟩ := key_nat (Int.le_refl 0) h0
        rw [ej, ey2] at hs
        rw [ej, ey2, ez2] at an
        subst ek ey ez
        unfold Vbchah.LOSS at hz
        have A1 := (A.at_ he).same s1
        exact ⟨_, rfl, rfl, _, rfl, ifF (by decide) ⟨_, rfl, _, rfl, _, rfl, _, rfl, h, s, d, n, j, y, z, i, rfl, A1, j1, j7, by omega, hs, fun H2 s2 => ⟨len1, fun p hp => an.view A (s1.trans s2) hp rfl⟩⟩⟩
    · refine ⟨_, rfl, _, rfl, _, rfl, _, rfl, h, s, _, k, key, rfl, A, fun h2 => (nomatch h2), fun _ => ?_, fun h2 => (nomatch h2), fun d n H1 h2 => (nomatch h2), fun d n i H1 h2 => (nomatch h2)⟩
      have e : Vbchah.step s (.at_ m k key) = (s, [-1]) := (if_neg (by rw [h0]; exact Bool.noConfusion)).trans (borne_bad (.inl (Bool.eq_false_iff.mpr h1)))
      rw [e] at an
      exact ⟨_, rfl, rfl, _, rfl, ifT (by decide) ⟨_, rfl, len1, fun p hp => an.view A (Same.refl _) hp rfl⟩⟩
    · refine ⟨_, rfl, _, rfl, _, rfl, _, rfl, h, s, _, k, key, rfl, A, fun h2 => (nomatch h2), fun _ => ?_, fun h2 => (nomatch h2), fun d n H1 h2 => (nomatch h2), fun d n i H1 h2 => (nomatch h2)⟩
      have e : Vbchah.step s (.at_ m k key) = (s, [-1]) := if_pos (Bool.eq_false_iff.mpr h0)
      rw [e] at an
      exact ⟨_, rfl, rfl, _, rfl, ifT (by decide) ⟨_, rfl, len1, fun p hp => an.view A (Same.refl _) hp rfl⟩⟩
theorem part_mono {s : VSt} (W : Wf s) {d a b k key : Nat} (h : a ≤ b) : Vbchah.partOf s d a k key ≤ Vbchah.partOf s d b k key := by
  unfold Vbchah.partOf
  cases e : Vbchah.slotOf s d k key with
  | none => exact Nat.le_refl _
  | some i =>
    unfold Vbchah.slotOf at e
    refine share_mono (slots_fine W d k) ?_ (List.mem_of_find?_eq_some e)
    unfold Vbchah.bears
    omega
def spBetweenV (CH CM : Addr) : Sp := fun vs H Q _ => ∃ (h : Addr) (s : VSt) (a : Int) (b : Int) (k : Int) (key : Int), vs = [.ref h, .int a, .int b, .int k, .int key] ∧ HSt CH CM H h s ∧ Ans CH CM H h (Vbchah.step s (.between a b k key)) Q
abbrev s_between_view : Stmt := top 84
theorem sc_between_view : FnScope ["house", "lower", "upper", "k", "key", "in_range", "refusal"] ["house", "lower", "upper", "k", "key"] (defScope s_between_view) := ⟨rfl, rfl, rfl, by decide +kernel, rfl, by decide +kernel, by decide +kernel⟩
theorem ok_between_view {f : Addr} {fd : FuncData} (F : Fun K "between_view" "between_view" s_between_view f fd) (T : Tn mg) (D_is_loss : Def P w K mg base "is_loss" 1 ["amount"] (spIn 0 Vbchah.LOSS)) (D_is_layer : Def P w K mg base "is_layer" 1 ["k"] (spIn 1 Vbchah.LAYERS)) (D_is_bearer_key : Def P w K mg base "is_bearer_key" 1 ["key"] (spIn 0 Vbchah.KEY)) (D_bearer_refusal : Def P w K mg base "bearer_refusal" 5 ["house", "in_range", "k", "key"] (spBRef C CH CM)) (D_share_at : Def P w K mg base "share_at" 8 ["house", "k", "key", "loss"] (spShareAt CH CM)) : FnOk P w K mg base CX0 9 f fd ["house", "lower", "upper", "k", "key"] (spBetweenV CH CM) := by
  refine F.ok sc_between_view (fun vs H Q E h => ?_) (fun cdv A outer st H vs Q E hr h => ?_)
  · obtain ⟨h, s, a, b, k, key, rfl, _⟩ := h
    rfl
  · obtain ⟨h, s, a, b, k, key, rfl, A, an⟩ := h
    have bad : (Vbchah.within a 0 Vbchah.LOSS && (Vbchah.within b 0 Vbchah.LOSS && decide (a ≤ b))) = false → Vbchah.step s (.between a b k key) = (s, [-1]) := fun e => if_pos e
    have good : ∀ {x : VSt × List Int}, (Vbchah.within a 0 Vbchah.LOSS && (Vbchah.within b 0 Vbchah.LOSS && decide (a ≤ b))) = true → Vbchah.borneBy s k key (fun d _ _ => (s, Vbchah.ints [Vbchah.partOf s d b.toNat k.toNat key.toNat - Vbchah.partOf s d a.toNat k.toNat key.toNat])) = x → Vbchah.step s (.between a b k key) = x :=
      fun h e => (if_neg (by rw [h]; exact Bool.noConfusion)).trans e
    refine ⟨_, (pss_cons (ps_set (i := 5) sc_between_view.nd rfl (Or.inl rfl) (pe_and (pe_def D_is_loss (hr.mono (by decide)) (pa_cons (pv 1) pa_nil)) (pe_and (pe_chain op_le op_le (pv 1) (pv 2) (pe_num T.c_MOST_LOSS)) (pe_and (pe_def D_is_layer (hr.mono (by decide)) (pa_cons (pv 3) pa_nil)) (pe_one (pe_def D_is_bearer_key (hr.mono (by decide)) (pa_cons (pv 4) pa_nil)))))))
      (pss_cons (ps_set (i := 6) sc_between_view.nd rfl (Or.inl rfl) (pe_def D_bearer_refusal (hr.mono (by decide)) (pa_cons (pv 0) (pa_cons (pv 5) (pa_cons (pv 3) (pa_cons (pv 4) pa_nil))))))
      (pss_cons (ps_if (pt_cmpR op_ne (pv 6) (pe_num T.c_NO_REFUSAL) (nomark _)) (pss_one (ps_ret (pe_lst (pa_cons (pv 6) pa_nil)))) pss_nil)
      (pss_one (ps_ret (pe_lst (pa_cons (pe_op op_sub (pe_def D_share_at (hr.mono (by decide)) (pa_cons (pv 0) (pa_cons (pv 3) (pa_cons (pv 4) (pa_cons (pv 2) pa_nil))))) (pe_def D_share_at (hr.mono (by decide)) (pa_cons (pv 0) (pa_cons (pv 3) (pa_cons (pv 4) (pa_cons (pv 1) pa_nil)))))) pa_nil))))))), ?_⟩
    refine ⟨_, rfl, a, rfl, _, rfl, ite2 (fun h0 => ⟨_, rfl, _, rfl, _, _, rfl, rfl, _, rfl, ite2 (fun ha => ⟨_, _, rfl, rfl, _, rfl, ite2 (fun hb => ⟨_, rfl, k, rfl, _, rfl, ite2 (fun h1 => ?_) fun h1 => ?_⟩) fun hb => ?_⟩) fun ha => ⟨_, rfl, ifF rfl ?_⟩⟩) fun h0 => ?_⟩
    · have ha' := of_decide_eq_true ha
      have hb' := of_decide_eq_true hb
      have wa := within_iff.mp h0
      have hb2 : Vbchah.within b 0 Vbchah.LOSS = true := within_iff.mpr ⟨by omega, hb'⟩
      have hall : (Vbchah.within a 0 Vbchah.LOSS && (Vbchah.within b 0 Vbchah.LOSS && decide (a ≤ b))) = true := by rw [h0, hb2, ha]; rfl
      refine ⟨_, rfl, key, rfl, _, rfl, _, rfl, _, rfl, _, rfl, h, s, _, k, key, rfl, A, fun h2 => ⟨h1, h2⟩, fun h2 => ?_, fun h2 he => ?_, fun d n H1 h2 he hs s1 => ?_, fun d n i H1 h2 he hs s1 => ?_⟩
      · rw [good hall (borne_bad (.inr h2))] at an
        exact ⟨_, rfl, rfl, _, rfl, ifT (by decide) ⟨_, rfl, len1, fun p hp => an.view A (Same.refl _) hp rfl⟩⟩
      · rw [good hall (borne_none h1 h2 he)] at an
        exact ⟨_, rfl, rfl, _, rfl, ifT (by decide) ⟨_, rfl, len1, fun p hp => an.view A (Same.refl _) hp rfl⟩⟩
      · rw [good hall (borne_no h1 h2 he hs)] at an
        exact ⟨_, rfl, rfl, _, rfl, ifT (by decide) ⟨_, rfl, len1, fun p hp => an.view A s1 hp rfl⟩⟩
      · rw [good hall (borne_yes h1 h2 he hs)] at an
        obtain ⟨j, ek, ej, j1, j7⟩ := layer_nat (k := k) h1
        obtain ⟨y, ey, ey2, _, _⟩ := key_nat (Int.le_refl 0) h2
        obtain ⟨z, ez, ez2, _, hz⟩ := key_nat (Int.le_refl 0) h0
        obtain ⟨z', ez', ez2', _, hz'⟩ := key_nat (Int.le_refl 0) hb2
        rw [ej, ey2] at hs
        rw [ej, ey2, ez2, ez2'] at an
        subst ek ey ez ez'
        unfold Vbchah.LOSS at hz hz'
        have A1 := (A.at_ he).same s1
        have pm : Vbchah.partOf s d z j y ≤ Vbchah.partOf s d z' j y := part_mono A.wf (by omega)
        refine ⟨_, rfl, rfl, _, rfl, ifF (by decide) ⟨_, rfl, _, rfl, _, rfl, _, rfl, h, s, d, n, j, y, z', i, rfl, A1, j1, j7, by omega, hs, fun H2 s2 => ⟨_, rfl, _, rfl, _, rfl, _, rfl, h, s, d, n, j, y, z, i, rfl, A1.same s2, j1, j7, by omega, hs, fun H3 s3 => ⟨_, _, rfl, rfl, len1, fun p hp => an.view A ((s1.trans s2).trans s3) hp ?_⟩⟩⟩⟩
        have e : ((Vbchah.partOf s d z' j y : Nat) : Int) - ((Vbchah.partOf s d z j y : Nat) : Int) = ((Vbchah.partOf s d z' j y - Vbchah.partOf s d z j y : Nat) : Int) := by omega
        try dsimp only
        rw [e]
        rfl
    · have ha' := of_decide_eq_true ha
      have hb' := of_decide_eq_true hb
      have wa := within_iff.mp h0
      have hb2 : Vbchah.within b 0 Vbchah.LOSS = true := within_iff.mpr ⟨by omega, hb'⟩
      have hall : (Vbchah.within a 0 Vbchah.LOSS && (Vbchah.within b 0 Vbchah.LOSS && decide (a ≤ b))) = true := by rw [h0, hb2, ha]; rfl
      refine ⟨_, rfl, _, rfl, _, rfl, _, rfl, h, s, _, k, key, rfl, A, fun h2 => (nomatch h2), fun _ => ?_, fun h2 => (nomatch h2), fun d n H1 h2 => (nomatch h2), fun d n i H1 h2 => (nomatch h2)⟩
      rw [good hall (borne_bad (.inl (Bool.eq_false_iff.mpr h1)))] at an
      exact ⟨_, rfl, rfl, _, rfl, ifT (by decide) ⟨_, rfl, len1, fun p hp => an.view A (Same.refl _) hp rfl⟩⟩
    · have e : Vbchah.within b 0 Vbchah.LOSS = false := Bool.eq_false_iff.mpr fun z => hb (decide_eq_true (within_iff.mp z).2)
      refine ⟨_, rfl, _, rfl, _, rfl, _, rfl, h, s, _, k, key, rfl, A, fun h2 => (nomatch h2), fun _ => ?_, fun h2 => (nomatch h2), fun d n H1 h2 => (nomatch h2), fun d n i H1 h2 => (nomatch h2)⟩
      rw [bad (by rw [e, Bool.false_and, Bool.and_false])] at an
      exact ⟨_, rfl, rfl, _, rfl, ifT (by decide) ⟨_, rfl, len1, fun p hp => an.view A (Same.refl _) hp rfl⟩⟩
    · refine ⟨_, rfl, _, rfl, _, rfl, _, rfl, h, s, _, k, key, rfl, A, fun h2 => (nomatch h2), fun _ => ?_, fun h2 => (nomatch h2), fun d n H1 h2 => (nomatch h2), fun d n i H1 h2 => (nomatch h2)⟩
      rw [bad (by rw [Bool.eq_false_iff.mpr ha, Bool.and_false, Bool.and_false])] at an
      exact ⟨_, rfl, rfl, _, rfl, ifT (by decide) ⟨_, rfl, len1, fun p hp => an.view A (Same.refl _) hp rfl⟩⟩
    · refine ⟨_, rfl, _, rfl, _, rfl, _, rfl, h, s, _, k, key, rfl, A, fun h2 => (nomatch h2), fun _ => ?_, fun h2 => (nomatch h2), fun d n H1 h2 => (nomatch h2), fun d n i H1 h2 => (nomatch h2)⟩
      rw [bad (by rw [Bool.eq_false_iff.mpr h0, Bool.false_and])] at an
      exact ⟨_, rfl, rfl, _, rfl, ifT (by decide) ⟨_, rfl, len1, fun p hp => an.view A (Same.refl _) hp rfl⟩⟩
def spUntilV (CH CM : Addr) : Sp := fun vs H Q _ => ∃ (h : Addr) (s : VSt) (k : Int) (key : Int) (m : Int), vs = [.ref h, .int k, .int key, .int m] ∧ HSt CH CM H h s ∧ Ans CH CM H h (Vbchah.step s (.until_ k key m)) Q
abbrev s_until_view : Stmt := top 85
theorem sc_until_view : FnScope ["house", "k", "key", "share", "in_range", "refusal", "bearer"] ["house", "k", "key", "share"] (defScope s_until_view) := ⟨rfl, rfl, rfl, by decide +kernel, rfl, by decide +kernel, by decide +kernel⟩
theorem ok_until_view {f : Addr} {fd : FuncData} (F : Fun K "until_view" "until_view" s_until_view f fd) (B : TB K C) (T : Tn mg) (D_is_some_units : Def P w K mg base "is_some_units" 1 ["amount"] (spIn 1 Vbchah.LOSS)) (D_is_layer : Def P w K mg base "is_layer" 1 ["k"] (spIn 1 Vbchah.LAYERS)) (D_is_bearer_key : Def P w K mg base "is_bearer_key" 1 ["key"] (spIn 0 Vbchah.KEY)) (D_bearer_refusal : Def P w K mg base "bearer_refusal" 5 ["house", "in_range", "k", "key"] (spBRef C CH CM)) (D_bearer_of : Def P w K mg base "bearer_of" 4 ["house", "k", "key"] (spBearerOf C CH CM)) (D_room_ahead : Def P w K mg base "room_ahead" 5 ["house", "k"] (spAhead CH CM)) (D_bearers_of : Def P w K mg base "bearers_of" 3 ["house", "k"] (spBearers C CH CM)) (D_place_of : Def P w K mg base "place_of" 5 ["bearers", "bearer", "share"] (spPlace C)) :
    FnOk P w K mg base CX0 6 f fd ["house", "k", "key", "share"] (spUntilV CH CM) := by
  refine F.ok sc_until_view (fun vs H Q E h => ?_) (fun cdv A outer st H vs Q E hr h => ?_)
  · obtain ⟨h, s, k, key, m, rfl, _⟩ := h
    rfl
  · obtain ⟨h, s, k, key, m, rfl, A, an⟩ := h
    have bad0 : Vbchah.within m 1 Vbchah.LOSS = false → Vbchah.step s (.until_ k key m) = (s, [-1]) := fun e => if_pos e
    have good : ∀ {x : VSt × List Int}, Vbchah.within m 1 Vbchah.LOSS = true → Vbchah.borneBy s k key (fun d _ i => if i.cap < m.toNat then (s, [-3]) else (s, Vbchah.ints [Vbchah.before s d k.toNat + Vbchah.untilOf (Vbchah.slots s d k.toNat) i m.toNat])) = x → Vbchah.step s (.until_ k key m) = x :=
      fun h e => (if_neg (by rw [h]; exact Bool.noConfusion)).trans e
    have bad1 : Vbchah.layered k = false ∨ Vbchah.within key 0 Vbchah.KEY = false → Vbchah.step s (.until_ k key m) = (s, [-1]) := fun e => by
      cases hm : Vbchah.within m 1 Vbchah.LOSS with
      | false => exact bad0 hm
      | true => exact good hm (borne_bad e)
    refine ⟨_, (pss_cons (ps_set (i := 4) sc_until_view.nd rfl (Or.inl rfl) (pe_and (pe_def D_is_layer (hr.mono (by decide)) (pa_cons (pv 1) pa_nil)) (pe_and (pe_def D_is_bearer_key (hr.mono (by decide)) (pa_cons (pv 2) pa_nil)) (pe_one (pe_def D_is_some_units (hr.mono (by decide)) (pa_cons (pv 3) pa_nil))))))
      (pss_cons (ps_set (i := 5) sc_until_view.nd rfl (Or.inl rfl) (pe_def D_bearer_refusal (hr.mono (by decide)) (pa_cons (pv 0) (pa_cons (pv 4) (pa_cons (pv 1) (pa_cons (pv 2) pa_nil))))))
      (pss_cons (ps_if (pt_cmpR op_ne (pv 5) (pe_num T.c_NO_REFUSAL) (nomark _)) (pss_one (ps_ret (pe_lst (pa_cons (pv 5) pa_nil)))) pss_nil)
      (pss_cons (ps_set (i := 6) sc_until_view.nd rfl (Or.inl rfl) (pe_def D_bearer_of (hr.mono (by decide)) (pa_cons (pv 0) (pa_cons (pv 1) (pa_cons (pv 2) pa_nil)))))
      (pss_cons (ps_if (pt_cmpR op_lt (pe_f (pv 6) rfl) (pv 3) (nomark _)) (pss_one (ps_ret (pe_lst (pa_cons (pe_num T.c_MORE_THAN_MOST) pa_nil)))) pss_nil)
      (pss_one (ps_ret (pe_lst (pa_cons (pe_op op_add (pe_def D_room_ahead (hr.mono (by decide)) (pa_cons (pv 0) (pa_cons (pv 1) pa_nil))) (pe_def D_place_of (hr.mono (by decide)) (pa_cons (pe_def D_bearers_of (hr.mono (by decide)) (pa_cons (pv 0) (pa_cons (pv 1) pa_nil))) (pa_cons (pv 6) (pa_cons (pv 3) pa_nil))))) pa_nil))))))))), ?_⟩
    refine ⟨_, rfl, k, rfl, _, rfl, ite2 (fun h1 => ⟨_, rfl, key, rfl, _, rfl, ite2 (fun h2 => ?_) fun h2 => ?_⟩) fun h1 => ?_⟩
    · refine ⟨_, rfl, m, rfl, _, rfl, _, rfl, _, rfl, _, rfl, h, s, _, k, key, rfl, A, fun _ => ⟨h1, h2⟩, fun h0 => ?_, fun h0 he => ?_, fun d n H1 h0 he hs s1 => ?_, fun d n i H1 h0 he hs s1 => ?_⟩
      · rw [bad0 h0] at an
        exact ⟨_, rfl, rfl, _, rfl, ifT (by decide) ⟨_, rfl, len1, fun p hp => an.view A (Same.refl _) hp rfl⟩⟩
      · rw [good h0 (borne_none h1 h2 he)] at an
        exact ⟨_, rfl, rfl, _, rfl, ifT (by decide) ⟨_, rfl, len1, fun p hp => an.view A (Same.refl _) hp rfl⟩⟩
      · rw [good h0 (borne_no h1 h2 he hs)] at an
        exact ⟨_, rfl, rfl, _, rfl, ifT (by decide) ⟨_, rfl, len1, fun p hp => an.view A s1 hp rfl⟩⟩
      · rw [good h0 (borne_yes h1 h2 he hs)] at an
        obtain ⟨j, ek, ej, j1, j7⟩ := layer_nat (k := k) h1
        obtain ⟨y, ey, ey2, _, _⟩ := key_nat (Int.le_refl 0) h2
        obtain ⟨z, ez, ez2, z1, hz⟩ := key_nat (by decide) h0
        rw [ej, ey2] at hs
        rw [ej, ez2] at an
        subst ek ey ez
        unfold Vbchah.LOSS at hz
        have A1 := (A.at_ he).same s1
        refine ⟨_, rfl, rfl, _, rfl, ifF (by decide) ⟨_, rfl, _, rfl, _, rfl, h, s, d, n, j, y, rfl, A1, j1, j7, fun H2 s2 e => ?_, fun H2 x t s2 e bx => ?_⟩⟩
        · rw [hs] at e
          cases e
        · rw [hs] at e
          have e := Option.some.inj e
          subst e
          obtain ⟨dy, hx⟩ := bx
          have A2 := A1.same s2
          refine ⟨_, rfl, x, C, dy, _, _, rfl, hx, B.cl, B.nM, bF_most _, _, rfl, _, _, rfl, rfl, _, rfl, ite2 (fun z => ?_) fun z => ?_⟩
          · have z := of_decide_eq_true z
            rw [if_pos (by omega)] at an
            exact ⟨len1, fun p hp => an.view A (s1.trans s2) hp rfl⟩
          · have z : ¬ ((i.cap : Nat) : Int) < _ := fun q => z (decide_eq_true q)
            rw [if_neg (by omega)] at an
            have mi : i ∈ Vbchah.slots s d j := List.mem_of_find?_eq_some hs
            refine ⟨_, rfl, _, rfl, h, s, d, n, j, rfl, A2, j1, by omega, fun H3 s3 => ⟨_, rfl, _, rfl, h, s, d, n, j, rfl, A2.same s3, j1, j7, fun H4 p zs s4 L es => ⟨_, rfl, _, rfl, p, x, zs, i, _, rfl, L, ?_, ⟨dy, s4 _ _ (s3 _ _ hx)⟩, (slots_sm A.wf d j).wts i mi, by omega, by omega, fun H5 s5 => ⟨_, _, rfl, rfl, len1, fun p hp => an.view A ((((s1.trans s2).trans s3).trans s4).trans s5) hp ?_⟩⟩⟩⟩
            · have := slots_len A.wf d j
              rw [← es, List.length_map] at this
              exact this
            · rw [es]
              rfl
    · refine ⟨_, rfl, _, rfl, _, rfl, _, rfl, h, s, _, k, key, rfl, A, fun h2 => (nomatch h2), fun _ => ?_, fun h2 => (nomatch h2), fun d n H1 h2 => (nomatch h2), fun d n i H1 h2 => (nomatch h2)⟩
      rw [bad1 (.inr (Bool.eq_false_iff.mpr h2))] at an
      exact ⟨_, rfl, rfl, _, rfl, ifT (by decide) ⟨_, rfl, len1, fun p hp => an.view A (Same.refl _) hp rfl⟩⟩
    · refine ⟨_, rfl, _, rfl, _, rfl, _, rfl, h, s, _, k, key, rfl, A, fun h2 => (nomatch h2), fun _ => ?_, fun h2 => (nomatch h2), fun d n H1 h2 => (nomatch h2), fun d n i H1 h2 => (nomatch h2)⟩
      rw [bad1 (.inl (Bool.eq_false_iff.mpr h1))] at an
      exact ⟨_, rfl, rfl, _, rfl, ifT (by decide) ⟨_, rfl, len1, fun p hp => an.view A (Same.refl _) hp rfl⟩⟩
theorem eqv_ints : ∀ xs ys : List Int, PyData.eqvAll (xs.map PyData.int) (ys.map PyData.int) = decide (xs = ys)
  | [], [] => by simp [PyData.eqvAll]
  | [], y :: ys => by simp [PyData.eqvAll]
  | x :: xs, [] => by simp [PyData.eqvAll]
  | x :: xs, y :: ys => by
    rw [List.map_cons, List.map_cons, PyData.eqvAll, PyData.eqv, eqv_ints xs ys, Bool.eq_iff_iff, Bool.and_eq_true, beq_iff_eq, decide_eq_true_iff, decide_eq_true_iff, List.cons.injEq]
theorem dp_ints {H : Hp} : ∀ xs : List Int, DpAll K H (xs.map V.int) (xs.map PyData.int)
  | [] => .nil
  | x :: xs => .cons (.int x) (dp_ints xs)
theorem lay_ints : ∀ xs : List Int, PyData.canLayAll0 (xs.map PyData.int) = true
  | [] => by simp [PyData.canLayAll0]
  | x :: xs => by rw [List.map_cons, PyData.canLayAll0, PyData.canLay0, lay_ints xs]; rfl
theorem depth_ints : ∀ xs : List Int, PyData.depthAll (xs.map PyData.int) ≤ 1
  | [] => by simp [PyData.depthAll]
  | x :: xs => by
    rw [List.map_cons, PyData.depthAll, PyData.depth]
    have := depth_ints xs
    omega
theorem shaped_ints (xs : List Int) : SeqAt.shaped (.list (xs.map PyData.int)) = true := by
  unfold SeqAt.shaped
  rw [PyData.canLay0, lay_ints, Bool.true_and, PyData.depth]
  have := depth_ints xs
  exact decide_eq_true (by omega)
def spCheckV (K : PySem.W.Frag) (CH CM : Addr) : Sp := fun vs H Q _ => ∃ (h g : Addr) (s : VSt) (k n : Int) (ns : List Int), vs = [.ref h, .int k, .int n, .ref g] ∧ HSt CH CM H h s ∧ SqL K H g (ns.map V.int) ∧ ns.length < sizeLine ∧ Ans CH CM H h (Vbchah.step s (.check k n ns)) Q
abbrev s_check_view : Stmt := top 86
theorem sc_check_view : FnScope ["house", "k", "units", "given", "refusal", "bearers", "shares", "key"] ["house", "k", "units", "given"] (defScope s_check_view) := ⟨rfl, rfl, rfl, by decide +kernel, rfl, by decide +kernel, by decide +kernel⟩
theorem map_toNat_iff {ns : List Int} (h : ∀ z ∈ ns, 0 ≤ z) {l : List Nat} : ns = l.map (fun n : Nat => (n : Int)) ↔ ns.map Int.toNat = l := by
  constructor
  · intro e
    rw [e, List.map_map]
    have : (Int.toNat ∘ fun n : Nat => (n : Int)) = id := funext fun n => Int.toNat_natCast n
    rw [this, List.map_id]
  · intro e
    rw [← e, List.map_map]
    refine (List.map_id ns).symm.trans (List.map_congr_left fun z hz => ?_)
    exact (Int.toNat_of_nonneg (h z hz)).symm
theorem ok_check_view {f : Addr} {fd : FuncData} (F : Fun K "check_view" "check_view" s_check_view f fd) (B : TB K C) (T : Tn mg) (D_is_loss : Def P w K mg base "is_loss" 1 ["amount"] (spIn 0 Vbchah.LOSS)) (D_is_layer : Def P w K mg base "is_layer" 1 ["k"] (spIn 1 Vbchah.LAYERS)) (D_is_share_list : Def P w K mg base "is_share_list" 2 ["given"] (spShareList K)) (D_event_refusal : Def P w K mg base "event_refusal" 1 ["house", "in_range"] (spEvRef CH CM)) (D_bearers_of : Def P w K mg base "bearers_of" 3 ["house", "k"] (spBearers C CH CM)) (D_room_of : Def P w K mg base "room_of" 1 ["bearers"] (spRoom C)) (D_shares_after : Def P w K mg base "shares_after" 5 ["bearers", "units"] (spShares C)) : FnOk P w K mg base CX0 6 f fd ["house", "k", "units", "given"] (spCheckV K CH CM) := by
  refine F.ok sc_check_view (fun vs H Q E h => ?_) (fun cdv A outer st H vs Q E hr h => ?_)
  · obtain ⟨h, g, s, k, n, ns, rfl, _⟩ := h
    rfl
  · obtain ⟨h, g, s, k, n, ns, rfl, A, L, hlen, an⟩ := h
    have hu := hu_of hr
    have bad : (Vbchah.layered k && (Vbchah.within n 0 Vbchah.LOSS && (decide (ns.length ≤ Vbchah.MEMBERS) && ns.all fun z => Vbchah.within z 0 Vbchah.LOSS))) = false → Vbchah.step s (.check k n ns) = (s, [-1]) := fun e => if_pos e
    have good : ∀ {x : VSt × List Int}, (Vbchah.layered k && (Vbchah.within n 0 Vbchah.LOSS && (decide (ns.length ≤ Vbchah.MEMBERS) && ns.all fun z => Vbchah.within z 0 Vbchah.LOSS))) = true →
        Vbchah.opened s (fun d _ => (s, [if Vbchah.rightShares (Vbchah.slots s d k.toNat) n.toNat (ns.map Int.toNat) = true then 1 else 0])) = x → Vbchah.step s (.check k n ns) = x := fun h e => (if_neg (by rw [h]; exact Bool.noConfusion)).trans e
    refine ⟨_, (pss_cons (ps_set (i := 4) sc_check_view.nd rfl (Or.inl rfl) (pe_def D_event_refusal (hr.mono (by decide)) (pa_cons (pv 0) (pa_cons (pe_and (pe_def D_is_layer (hr.mono (by decide)) (pa_cons (pv 1) pa_nil)) (pe_and (pe_def D_is_loss (hr.mono (by decide)) (pa_cons (pv 2) pa_nil)) (pe_one (pe_def D_is_share_list (hr.mono (by decide)) (pa_cons (pv 3) pa_nil))))) pa_nil))))
      (pss_cons (ps_if (pt_cmpR op_ne (pv 4) (pe_num T.c_NO_REFUSAL) (nomark _)) (pss_one (ps_ret (pe_lst (pa_cons (pv 4) pa_nil)))) pss_nil)
      (pss_cons (ps_set (i := 5) sc_check_view.nd rfl (Or.inl rfl) (pe_def D_bearers_of (hr.mono (by decide)) (pa_cons (pv 0) (pa_cons (pv 1) pa_nil))))
      (pss_cons (ps_if (pt_cmpR op_gt (pv 2) (pe_def D_room_of (hr.mono (by decide)) (pa_cons (pv 5) pa_nil)) (nomark _)) (pss_one (ps_ret (pe_lst (pa_cons pe_int pa_nil)))) pss_nil)
      (pss_cons (ps_set (i := 6) sc_check_view.nd rfl (Or.inr rfl) (pe_def D_shares_after (hr.mono (by decide)) (pa_cons (pv 5) (pa_cons (pv 2) pa_nil))))
      (pss_one (ps_ret (pe_lst (pa_cons (pe_ifExp (pt_cmpR (op_eqD hr.units) (pv 3) (pe_lock (pe_lc rfl sc_check_view.nd (pi_keys (pv 6)) (blkOk_by (own := [("key", 7)]) rfl) (fun _ _ _ _ _ => pg_name (i := 7) sc_check_view.nd rfl (Or.inl rfl)) (fun _ _ _ _ _ => pts_nil) (fun _ _ _ _ _ => (pe_dget hu (pv 6) (pv 7) (fun _ _ => rfl))))) (nomark _)) pe_int pe_int) pa_nil))))))))), ?_⟩
    refine ⟨_, rfl, _, rfl, k, rfl, _, rfl, ite2 (fun h1 => ⟨_, rfl, n, rfl, _, rfl, ite2 (fun h2 => ⟨_, rfl, g, ns, rfl, L, hlen, fun H1 s1 => ?_⟩) fun h2 => ?_⟩) fun h1 => ?_⟩
    · have A1 := A.same s1
      refine ⟨h, s, _, rfl, A1, fun h3 => ?_, fun h3 he => ?_, fun d m h3 he => ?_⟩
      · rw [bad (by rw [h3, Bool.and_false, Bool.and_false])] at an
        exact ⟨_, rfl, rfl, _, rfl, ifT (by decide) ⟨_, rfl, len1, fun p hp => an.view A s1 hp rfl⟩⟩
      · rw [good (by show (Vbchah.within k 1 Vbchah.LAYERS && _) = true; rw [h1, h2, h3]; rfl) (opened_none he)] at an
        exact ⟨_, rfl, rfl, _, rfl, ifT (by decide) ⟨_, rfl, len1, fun p hp => an.view A s1 hp rfl⟩⟩
      · rw [good (by show (Vbchah.within k 1 Vbchah.LAYERS && _) = true; rw [h1, h2, h3]; rfl) (opened_some he)] at an
        obtain ⟨j, ek, ej, j1, j7⟩ := layer_nat (k := k) h1
        obtain ⟨z, ez, ez2, _, hz⟩ := key_nat (Int.le_refl 0) h2
        rw [ej, ez2] at an
        subst ek ez
        unfold Vbchah.LOSS at hz
        have A2 := A1.at_ he
        have Fi := slots_fine A.wf d j
        have ceq := check_eq Fi z (ns.map Int.toNat)
        rw [Bool.and_eq_true, List.all_eq_true] at h3
        have hpos : ∀ q ∈ ns, 0 ≤ q := fun q hq => (within_iff.mp (h3.2 q hq)).1
        refine ⟨_, rfl, rfl, _, rfl, ifF (by decide) ⟨_, rfl, _, rfl, h, s, d, m, j, rfl, A2, j1, j7, fun H2 p zs s2 Lz es => ?_⟩⟩
        have hzl : zs.length ≤ 12 := by
          have := slots_len A.wf d j
          rw [← es, List.length_map] at this
          exact this
        refine ⟨_, rfl, _, rfl, p, zs, rfl, Lz, hzl, fun H3 s3 => ⟨_, _, rfl, rfl, _, rfl, ?_⟩⟩
        have s13 := (s1.trans s2).trans s3
        rw [es]
        refine ite2 (fun q => ?_) fun q => ?_
        · have q := of_decide_eq_true q
          have : ¬ Vbchah.rightShares (Vbchah.slots s d j) z (ns.map Int.toNat) = true := fun c => by
            have := (ceq.mp c).1
            omega
          rw [if_neg this] at an
          exact ⟨len1, fun p hp => an.view A s13 hp rfl⟩
        · have q : ¬ ((Vbchah.room (Vbchah.slots s d j) : Nat) : Int) < ((z : Nat) : Int) := fun y => q (decide_eq_true y)
          have hzr : z ≤ Vbchah.room (Vbchah.slots s d j) := by omega
          refine ⟨_, rfl, _, rfl, p, zs, z, rfl, Lz.same s3, by rw [es]; exact slots_sm A.wf d j, by rw [es]; exact Fi, by rw [es]; exact hzr, by omega, fun H4 d4 s4 n4 hd4 => ?_⟩
          rw [es] at hd4
          have s14 := s13.trans s4
          refine ⟨_, rfl, d4, _, hd4, trivial, fun od => ⟨_, rfl, d4, od, rfl, .inl ⟨_, upd_same, fun D hD => lc_keysP (fun t : VSlot => (t.key : Int)) (zs := Vbchah.slots s d j) (fun _ => true) (fun t => .int (Vbchah.shareOf (Vbchah.slots s d j) z t : Nat)) (by unfold shareKV; rw [List.map_map]; rfl) hD upd_same (small12 (slots_len A.wf d j)) (fun _ _ _ _ _ q => q) (fun t ht _ H' s5 Q0 q0 => ?_) fun H5 s5 hD5 => ?_⟩⟩⟩
          · exact ⟨_, rfl, _, rfl, d4, _, rfl, dget_frz (k := Sum.inl (t.key : Int)) (s5 _ _ upd_same) (shareKV_at Fi.rising ht z), q0 _ (Same.refl _)⟩
          · refine ⟨s5 _ _ upd_same, ?_⟩
            have sU : Same H4 (upd H5 d4 (.dK (shareKV (Vbchah.slots s d j) z))) := same_unlock hd4 s5
            have sF := s14.trans sU
            have hD6 : (upd H5 d4 (.dK (shareKV (Vbchah.slots s d j) z))) D = some (.lst (((Vbchah.shares (Vbchah.slots s d j) z).map fun n : Nat => (n : Int)).map V.int)) := by
              rw [upd_ne (ne_of hD5 (s5 _ _ upd_same) (fun z => (nomatch z))), hD5, filt_true]
              unfold Vbchah.shares
              rw [List.map_map, List.map_map]
              rfl
            refine ⟨_, _, .lst (sF.seq L) (dp_ints ns), .lst (SqL.of hD6) (dp_ints _), shaped_ints ns, shaped_ints _, _, rfl, ?_⟩
            rw [PyData.eqv, eqv_ints]
            have hiff : Vbchah.rightShares (Vbchah.slots s d j) z (ns.map Int.toNat) = true ↔ ns = (Vbchah.shares (Vbchah.slots s d j) z).map fun n : Nat => (n : Int) := by
              rw [map_toNat_iff hpos]
              exact ceq.trans ⟨fun c => c.2, fun c => ⟨hzr, c⟩⟩
            refine ite2 (fun c => ?_) fun c => ?_
            · rw [if_pos (hiff.mpr (of_decide_eq_true c))] at an
              exact ⟨len1, fun p hp => an.view A sF hp rfl⟩
            · rw [if_neg (fun y => c (decide_eq_true (hiff.mp y)))] at an
              exact ⟨len1, fun p hp => an.view A sF hp rfl⟩
    · refine ⟨h, s, _, rfl, A, fun _ => ?_, fun h3 => (nomatch h3), fun d m h3 => (nomatch h3)⟩
      rw [bad (by rw [Bool.eq_false_iff.mpr h2, Bool.false_and, Bool.and_false])] at an
      exact ⟨_, rfl, rfl, _, rfl, ifT (by decide) ⟨_, rfl, len1, fun p hp => an.view A (Same.refl _) hp rfl⟩⟩
    · refine ⟨h, s, _, rfl, A, fun _ => ?_, fun h3 => (nomatch h3), fun d m h3 => (nomatch h3)⟩
      rw [bad (by show (Vbchah.within k 1 Vbchah.LAYERS && _) = false; rw [Bool.eq_false_iff.mpr h1, Bool.false_and])] at an
      exact ⟨_, rfl, rfl, _, rfl, ifT (by decide) ⟨_, rfl, len1, fun p hp => an.view A (Same.refl _) hp rfl⟩⟩
end
end U
end
section
set_option linter.all false
set_option Elab.async false
set_option linter.all false
set_option maxRecDepth 100000
set_option maxHeartbeats 2000000
namespace U
open PySem PySem.Spec PyProof.Rows L2 L3 Lb
def IsB (t : TE) (σ : L2.St) (b : Bool) : Prop := ∀ (H : Hp) (Q : VK), Q (.bl b) H → t σ H Q
def IsT (t : TT) (σ : L2.St) (b : Bool) : Prop := ∀ (H : Hp) (Q : Bool → Hp → Prop), Q b H → t σ H Q
def tIsB (t : TE) : TE := fun σ H Q => ∃ b, IsB t σ b ∧ Q (.bl b) H
def tIsT (t : TT) : TT := fun σ H Q => ∃ b, IsT t σ b ∧ Q b H
theorem pe_isB {X : Cx} {e : Expr} {t : TE} (h : PE X e t) : PE X e (tIsB t) := fun pins s σ H Q I ⟨_, hb, q⟩ => h pins s σ H Q I (hb H Q q)
theorem pt_isB {X : Cx} {e : Expr} {t : TT} (h : PT X e t) : PT X e (tIsT t) := fun pins s σ H Q I ⟨_, hb, q⟩ => h pins s σ H Q I (hb H Q q)
theorem isB_call {σ : L2.St} {i : Nat} {z lo : Int} {hi : Nat} (h : σ[i]? = some (some (.int z))) : IsB (tCall (spIn lo hi) [] E0 (tCons (tVar i) tNil)) σ (Vbchah.within z lo hi) := fun H Q q => ⟨_, h, z, rfl, q⟩
theorem isB_var {σ : L2.St} {i : Nat} {b : Bool} (h : σ[i]? = some (some (.bl b))) : IsB (tVar i) σ b := fun H Q q => ⟨_, h, q⟩
theorem isB_and {ta tb : TE} {σ : L2.St} {c e : Bool} (ha : IsB ta σ c) (hb : IsB tb σ e) : IsB (tAndV ta tb) σ (c && e) := fun H Q q => ha H _ ⟨c, rfl, by
  cases c with
  | false => exact q
  | true => exact hb H Q q⟩
theorem isT_val {t : TE} {σ : L2.St} {b : Bool} (h : IsB t σ b) : IsT (tB t) σ b := fun H Q q => h H _ ⟨b, rfl, q⟩
theorem isT_and {ta tb : TT} {σ : L2.St} {c e : Bool} (ha : IsT ta σ c) (hb : IsT tb σ e) : IsT (tAnd ta tb) σ (c && e) := fun H Q q => ha H _ (by
  cases c with
  | false => exact q
  | true => exact hb H Q q)
theorem isT_not {t : TT} {σ : L2.St} {b : Bool} (h : IsT t σ b) : IsT (tNot t) σ (!b) := fun H Q q => h H _ q
section
variable {P : Program} {w : World} {K : PySem.W.Frag} {mg : Str → Option Value} {base : Heap} {C CH CM nob cnt : Addr}
theorem mF_ne {m : VMem} {md : Addr} {s : VSt} {dv : V} {ls : Int} {C1 C2 d1 d2 : Addr} : HO.ins C1 d1 (mF m) ≠ HO.ins C2 d2 (hF md s dv ls) := fun z => by
  injection z with _ _ z
  have := congrArg List.length z
  exact absurd this (by show ¬ (5 : Nat) = 8; decide)
section
variable {H H' : Hp} {h : Addr} {s s' : VSt} {md : Addr} {ms : List (Addr × VMem)} {dv dv' : V} {ls ls' : Int} {dx : Addr}
theorem HouseAt.ne1 (A : HouseAt CH CM H h s md ms dv ls) {q : Addr × VMem} (hq : q ∈ ms) : q.1 ≠ h := by
  obtain ⟨dx, ho⟩ := A.obj
  obtain ⟨dm, hm⟩ := A.mems q hq
  exact ne_of hm ho mF_ne
theorem HouseAt.ne2 (A : HouseAt CH CM H h s md ms dv ls) : md ≠ h := by
  obtain ⟨dx, ho⟩ := A.obj
  exact ne_of A.dict ho (fun z => (nomatch z))
theorem HouseAt.ne3 (A : HouseAt CH CM H h s md ms dv ls) {q : Addr × VMem} (hq : q ∈ ms) : q.1 ≠ md := by
  obtain ⟨dm, hm⟩ := A.mems q hq
  exact ne_of hm A.dict (fun z => (nomatch z))
theorem HouseAt.house (A : HouseAt CH CM H h s md ms dv ls) (ho : H' h = some (.ins CH dx (hF md s' dv' ls'))) (sb : SameBut h H H') (hm : s'.members = s.members) (e0 : s'.event = none → dv' = .non)
    (e1 : ∀ d n, s'.event = some (d, n) → ls' = (n : Nat) ∧ ∃ q ∈ ms, q.2.key = d ∧ dv' = .ref q.1) : HouseAt CH CM H' h s' md ms dv' ls' :=
  ⟨⟨dx, ho⟩, sb _ _ A.dict A.ne2, fun q hq => let ⟨dm, e⟩ := A.mems q hq; ⟨dm, sb _ _ e (A.ne1 hq)⟩, A.nd, by rw [hm]; exact A.perm, e0, e1⟩
theorem HouseAt.dv_none (A : HouseAt CH CM H h s md ms dv ls) (he : s.event.isSome = false) : dv = .non := A.ev0 (by
  cases e : s.event with
  | none => rfl
  | some _ => rw [e] at he; cases he)
theorem HouseAt.dv_some (A : HouseAt CH CM H h s md ms dv ls) (he : s.event.isSome = true) : dv ≠ .non := by
  cases e : s.event with
  | none => rw [e] at he; cases he
  | some p =>
    obtain ⟨_, q, _, _, edv⟩ := A.ev1 p.1 p.2 e
    rw [edv]
    exact fun z => (nomatch z)
theorem HouseAt.notNone (A : HouseAt CH CM H h s md ms dv ls) : (!decide (dv = .non)) = s.event.isSome := by
  cases he : s.event.isSome with
  | true => rw [decide_eq_false (A.dv_some he)]; rfl
  | false => rw [decide_eq_true (A.dv_none he)]; rfl
end
theorem keepL_but {H H' : Hp} {a : Addr} {o : HO} (h : H a = some o) (ho : isL o = false) (sb : SameBut a H H') : KeepL H H' := fun b u hu e => sb b _ e (ne_of e h (isL_ne hu ho))
theorem Ans.make {H H1 : Hp} {h : Addr} {s' : VSt} {ns : List Int} {Q : VK} (a : Ans CH CM H h (s', ns) Q) (kl : KeepL H H1) (A : HSt CH CM H1 h s') (kn : ∀ p, H1 p = none → H p = none) {p : Addr} {xs : List V} (hp : H1 p = none) (e : xs = ns.map V.int) : Q (.ref p) (upd H1 p (.lst xs)) :=
  a _ p (kl.trans (same_keepL (Same.new hp))) (A.same (Same.new hp)) (kn p hp) (by rw [upd_same, e])
theorem none_upd {H : Hp} {a b : Addr} {o : HO} (h : upd H a o b = none) : H b = none := by
  by_cases e : b = a
  · subst e
    rw [upd_same] at h
    cases h
  · rw [upd_ne e] at h
    exact h
abbrev s_Member___init__ : Stmt := inClass (top 63) 0
theorem sc_Member___init__ : FnScope ["self", "key", "margin", "fund", "gain", "weight"] ["self", "key", "margin", "fund", "gain", "weight"] (defScope s_Member___init__) := ⟨rfl, rfl, rfl, by decide +kernel, rfl, by decide +kernel, by decide +kernel⟩
def spInitM (CM : Addr) : Sp := fun vs H Q _ => ∃ (p dx : Addr) (m : VMem), vs = [.ref p, .int (m.key : Nat), .int (m.margin : Nat), .int (m.fund : Nat), .int (m.gain : Nat), .int (m.weight : Nat)] ∧ H p = some (.ins CM dx []) ∧
  ∀ H' : Hp, H' p = some (.ins CM dx (mF m)) → (∀ b o, H b = some o → b ≠ p → H' b = some o) → (∀ b, H' b = none → H b = none) → Q .non H'
theorem ok_initM {f : Addr} {fd : FuncData} (F : Fun K "__init__" "Member.__init__" s_Member___init__ f fd) (T : TM K CM) : FnOk P w K mg base CX0 1 f fd ["self", "key", "margin", "fund", "gain", "weight"] (spInitM CM) := by
  refine F.ok sc_Member___init__ (fun vs H Q E h => ?_) (fun cdv A outer st H vs Q E hr h => ?_)
  · obtain ⟨p, dx, m, rfl, _⟩ := h
    rfl
  · obtain ⟨p, dx, m, rfl, hp, k⟩ := h
    refine ⟨_, (pss_cons (ps_fld (pv 0) (pv 1) rfl)
      (pss_cons (ps_fld (pv 0) (pv 2) rfl)
      (pss_cons (ps_fld (pv 0) (pv 3) rfl)
      (pss_cons (ps_fld (pv 0) (pv 4) rfl)
      (pss_one (ps_fld (pv 0) (pv 5) rfl)))))), ?_⟩
    refine ⟨_, rfl, _, rfl, p, CM, dx, _, rfl, hp, T.cl, T.nK, (by show 0 < 1000; decide), ?_⟩
    refine ⟨_, rfl, _, rfl, p, CM, dx, _, rfl, upd_same, T.cl, T.nMa, (by show 1 < 1000; decide), ?_⟩
    refine ⟨_, rfl, _, rfl, p, CM, dx, _, rfl, upd_same, T.cl, T.nF, (by show 2 < 1000; decide), ?_⟩
    refine ⟨_, rfl, _, rfl, p, CM, dx, _, rfl, upd_same, T.cl, T.nG, (by show 3 < 1000; decide), ?_⟩
    refine ⟨_, rfl, _, rfl, p, CM, dx, _, rfl, upd_same, T.cl, T.nW, (by show 4 < 1000; decide), ?_⟩
    exact k _ upd_same (fun b o e hb => by rw [upd_ne hb, upd_ne hb, upd_ne hb, upd_ne hb, upd_ne hb]; exact e) fun b e => none_upd (none_upd (none_upd (none_upd (none_upd e))))
abbrev s_House___init__ : Stmt := inClass (top 64) 0
theorem sc_House___init__ : FnScope ["self"] ["self"] (defScope s_House___init__) := ⟨rfl, rfl, rfl, by decide +kernel, rfl, by decide +kernel, by decide +kernel⟩
def spInitH (CH CM : Addr) : Sp := fun vs H Q _ => ∃ (p dx : Addr), vs = [.ref p] ∧ H p = some (.ins CH dx []) ∧
  ∀ (H' : Hp) (md : Addr), H' p = some (.ins CH dx (hF md Vbchah.start .non 0)) → H md = none → H' md = some (.dK []) → (∀ b o, H b = some o → b ≠ p → H' b = some o) → Q .non H'
theorem ok_initH {f : Addr} {fd : FuncData} (F : Fun K "__init__" "House.__init__" s_House___init__ f fd) (T : TH K CH) : FnOk P w K mg base CX0 1 f fd ["self"] (spInitH CH CM) := by
  refine F.ok sc_House___init__ (fun vs H Q E h => ?_) (fun cdv A outer st H vs Q E hr h => ?_)
  · obtain ⟨p, dx, rfl, _⟩ := h
    rfl
  · obtain ⟨p, dx, rfl, hp, k⟩ := h
    refine ⟨_, (pss_cons (ps_fld (pv 0) pe_dnewK rfl)
      (pss_cons (ps_fld (pv 0) pe_int rfl)
      (pss_cons (ps_fld (pv 0) pe_int rfl)
      (pss_cons (ps_fld (pv 0) pe_int rfl)
      (pss_cons (ps_fld (pv 0) pe_int rfl)
      (pss_cons (ps_fld (pv 0) pe_int rfl)
      (pss_cons (ps_fld (pv 0) pe_non rfl)
      (pss_one (ps_fld (pv 0) pe_int rfl))))))))), ?_⟩
    refine fun md hmd => ⟨_, rfl, p, CH, dx, _, rfl, (by rw [upd_ne (ne_of_none hp hmd)]; exact hp), T.cl, T.nMe, (by show 0 < 1000; decide), ?_⟩
    have nmp : md ≠ p := fun z => by rw [z, hp] at hmd; cases hmd
    refine ⟨_, rfl, p, CH, dx, _, rfl, upd_same, T.cl, T.nF, (by show 1 < 1000; decide), ?_⟩
    refine ⟨_, rfl, p, CH, dx, _, rfl, upd_same, T.cl, T.nL, (by show 2 < 1000; decide), ?_⟩
    refine ⟨_, rfl, p, CH, dx, _, rfl, upd_same, T.cl, T.nMu, (by show 3 < 1000; decide), ?_⟩
    refine ⟨_, rfl, p, CH, dx, _, rfl, upd_same, T.cl, T.nC, (by show 4 < 1000; decide), ?_⟩
    refine ⟨_, rfl, p, CH, dx, _, rfl, upd_same, T.cl, T.nU, (by show 5 < 1000; decide), ?_⟩
    refine ⟨_, rfl, p, CH, dx, _, rfl, upd_same, T.cl, T.nD, (by show 6 < 1000; decide), ?_⟩
    refine ⟨_, rfl, p, CH, dx, _, rfl, upd_same, T.cl, T.nLo, (by show 7 < 1000; decide), ?_⟩
    refine k _ md upd_same hmd ?_ fun b o e hb => ?_
    · rw [upd_ne nmp, upd_ne nmp, upd_ne nmp, upd_ne nmp, upd_ne nmp, upd_ne nmp, upd_ne nmp, upd_ne nmp, upd_same]
    · rw [upd_ne hb, upd_ne hb, upd_ne hb, upd_ne hb, upd_ne hb, upd_ne hb, upd_ne hb, upd_ne hb, upd_ne (ne_of_none e hmd)]
      exact e
def spSetHouse (CH CM : Addr) : Sp := fun vs H Q _ => ∃ (h : Addr) (s : VSt) (a : Int) (b : Int) (c : Int), vs = [.ref h, .int a, .int b, .int c] ∧ HSt CH CM H h s ∧ Ans CH CM H h (Vbchah.step s (.house a b c)) Q
abbrev s_set_house : Stmt := top 71
theorem sc_set_house : FnScope ["house", "first", "last", "multiple"] ["house", "first", "last", "multiple"] (defScope s_set_house) := ⟨rfl, rfl, rfl, by decide +kernel, rfl, by decide +kernel, by decide +kernel⟩
theorem ok_set_house {f : Addr} {fd : FuncData} (F : Fun K "set_house" "set_house" s_set_house f fd) (O : TH K CH) (T : Tn mg) (D_is_money : Def P w K mg base "is_money" 1 ["amount"] (spIn 0 Vbchah.MONEY)) (D_is_multiple : Def P w K mg base "is_multiple" 1 ["amount"] (spIn 0 10)) : FnOk P w K mg base CX0 2 f fd ["house", "first", "last", "multiple"] (spSetHouse CH CM) := by
  refine F.ok sc_set_house (fun vs H Q E h => ?_) (fun cdv A outer st H vs Q E hr h => ?_)
  · obtain ⟨h, s, a, b, c, rfl, _⟩ := h
    rfl
  · obtain ⟨h, s, a, b, c, rfl, A, an⟩ := h
    obtain ⟨md, ms, dv, ls, A1⟩ := A.ex
    obtain ⟨dx, ho⟩ := A1.obj
    refine ⟨_, (pss_cons (ps_if (pt_isB (pt_not (pw_and (pt_val (pe_def D_is_money (hr.mono (by decide)) (pa_cons (pv 1) pa_nil))) (pw_and (pt_val (pe_def D_is_money (hr.mono (by decide)) (pa_cons (pv 2) pa_nil))) (pw_and1 (pt_val (pe_def D_is_multiple (hr.mono (by decide)) (pa_cons (pv 3) pa_nil)))))).pt)) (pss_one (ps_ret (pe_lst (pa_cons (pe_num T.c_OUT_OF_RANGE) pa_nil)))) pss_nil)
      (pss_cons (ps_if (pt_cmp (pc_notN (pe_f (pv 0) rfl))) (pss_one (ps_ret (pe_lst (pa_cons (pe_num T.c_EVENT_IS_OPEN) pa_nil)))) pss_nil)
      (pss_cons (ps_fld (pv 0) (pv 1) rfl)
      (pss_cons (ps_fld (pv 0) (pv 2) rfl)
      (pss_cons (ps_fld (pv 0) (pv 3) rfl)
      (pss_one (ps_ret (pe_lst (pa_cons pe_int pa_nil))))))))), ?_⟩
    refine ⟨_, isT_not (isT_and (isT_val (isB_call rfl)) (isT_and (isT_val (isB_call rfl)) (isT_val (isB_call rfl)))), ?_⟩
    have estep : Vbchah.step s (.house a b c) = if (Vbchah.within a 0 Vbchah.MONEY && (Vbchah.within b 0 Vbchah.MONEY && Vbchah.within c 0 10)) = false then (s, [-1]) else if s.event.isSome = true then (s, [-5]) else ({ s with first := a.toNat, last := b.toNat, multiple := c.toNat }, [0]) := rfl
    rw [estep] at an
    cases hb : (Vbchah.within a 0 Vbchah.MONEY && (Vbchah.within b 0 Vbchah.MONEY && Vbchah.within c 0 10)) with
    | false =>
      rw [if_pos hb] at an
      exact ifT rfl ⟨len1, fun p hp => an.view A (Same.refl _) hp rfl⟩
    | true =>
      rw [if_neg (by rw [hb]; exact Bool.noConfusion)] at an
      refine ifF rfl ⟨_, rfl, h, CH, dx, _, _, rfl, ho, O.cl, O.nD, hF_def _ _ _ _, _, rfl, ?_⟩
      rw [A1.notNone]
      cases he : s.event.isSome with
      | true =>
        rw [if_pos he] at an
        exact ifT rfl ⟨len1, fun p hp => an.view A (Same.refl _) hp rfl⟩
      | false =>
        rw [if_neg (by rw [he]; exact Bool.noConfusion)] at an
        rw [Bool.and_eq_true, Bool.and_eq_true] at hb
        obtain ⟨a', ea, ea2, _, ha⟩ := key_nat (Int.le_refl 0) hb.1
        obtain ⟨b', eb, eb2, _, hb'⟩ := key_nat (Int.le_refl 0) hb.2.1
        obtain ⟨c', ec, ec2, _, hc⟩ := key_nat (Int.le_refl 0) hb.2.2
        rw [ea2, eb2, ec2] at an
        subst ea eb ec
        refine ifF rfl ⟨_, rfl, _, rfl, h, CH, dx, _, rfl, ho, O.cl, O.nF, (by show 8 < 1000; decide), ?_⟩
        refine ⟨_, rfl, _, rfl, h, CH, dx, _, rfl, upd_same, O.cl, O.nL, (by show 8 < 1000; decide), ?_⟩
        refine ⟨_, rfl, _, rfl, h, CH, dx, _, rfl, upd_same, O.cl, O.nMu, (by show 8 < 1000; decide), ?_⟩
        have edv := A1.dv_none he
        have een : s.event = none := by
          cases e : s.event with
          | none => rfl
          | some _ => rw [e] at he; cases he
        have sb : ∀ {o1 o2 o3 : HO}, SameBut h H (upd (upd (upd H h o1) h o2) h o3) := fun {o1 o2 o3} b o e nb => by rw [upd_ne nb, upd_ne nb, upd_ne nb]; exact e
        have W' : Wf { s with first := a', last := b', multiple := c' } := ⟨A.wf.rising, A.wf.mem, A.wf.len, ha, hb', hc, A.wf.ev⟩
        refine ⟨len1, fun p hp => an.make (keepL_but ho rfl sb) ⟨⟨md, ms, dv, ls, A1.house (s' := { s with first := a', last := b', multiple := c' }) upd_same sb rfl (fun _ => edv) fun d n e => ?_⟩, W'⟩ (fun p hp => none_upd (none_upd (none_upd hp))) hp rfl⟩
        have e : s.event = some (d, n) := e
        rw [een] at e
        cases e
def spAddMember (CH CM : Addr) : Sp := fun vs H Q _ => ∃ (h : Addr) (s : VSt) (key : Int) (margin : Int) (fund : Int) (gain : Int) (weight : Int), vs = [.ref h, .int key, .int margin, .int fund, .int gain, .int weight] ∧ HSt CH CM H h s ∧ Ans CH CM H h (Vbchah.step s (.member key margin fund gain weight)) Q
abbrev s_add_member : Stmt := top 70
theorem sc_add_member : FnScope ["house", "key", "margin", "fund", "gain", "weight", "all_money"] ["house", "key", "margin", "fund", "gain", "weight"] (defScope s_add_member) := ⟨rfl, rfl, rfl, by decide +kernel, rfl, by decide +kernel, by decide +kernel⟩
theorem ok_add_member {f : Addr} {fd : FuncData} (F : Fun K "add_member" "add_member" s_add_member f fd) (O : TH K CH) (B : Bt mg) (T : Tn mg) (N_Member : New P w K mg base "Member" CM 1 ["self", "key", "margin", "fund", "gain", "weight"] (spInitM CM)) (D_is_member_key : Def P w K mg base "is_member_key" 1 ["key"] (spIn 1 Vbchah.KEY)) (D_is_money : Def P w K mg base "is_money" 1 ["amount"] (spIn 0 Vbchah.MONEY)) (D_is_weight : Def P w K mg base "is_weight" 1 ["amount"] (spIn 0 Vbchah.WEIGHT)) : FnOk P w K mg base CX0 3 f fd ["house", "key", "margin", "fund", "gain", "weight"] (spAddMember CH CM) := by
  refine F.ok sc_add_member (fun vs H Q E h => ?_) (fun cdv A outer st H vs Q E hr h => ?_)
  · obtain ⟨h, s, key, margin, fund, gain, weight, rfl, _⟩ := h
    rfl
  · obtain ⟨h, s, key, margin, fund, gain, weight, rfl, A, an⟩ := h
    have hu := hu_of hr
    obtain ⟨md, ms, dv, ls, A1⟩ := A.ex
    obtain ⟨dx, ho⟩ := A1.obj
    refine ⟨_, (pss_cons (ps_set (i := 6) sc_add_member.nd rfl (Or.inl rfl) (pe_isB (pe_and (pe_def D_is_money (hr.mono (by decide)) (pa_cons (pv 2) pa_nil)) (pe_and (pe_def D_is_money (hr.mono (by decide)) (pa_cons (pv 3) pa_nil)) (pe_one (pe_def D_is_money (hr.mono (by decide)) (pa_cons (pv 4) pa_nil)))))))
      (pss_cons (ps_if (pt_isB (pt_not (pw_and (pt_val (pe_def D_is_member_key (hr.mono (by decide)) (pa_cons (pv 1) pa_nil))) (pw_and (pt_val (pv 6)) (pw_and1 (pt_val (pe_def D_is_weight (hr.mono (by decide)) (pa_cons (pv 5) pa_nil)))))).pt)) (pss_one (ps_ret (pe_lst (pa_cons (pe_num T.c_OUT_OF_RANGE) pa_nil)))) pss_nil)
      (pss_cons (ps_if (pt_cmp (pc_notN (pe_f (pv 0) rfl))) (pss_one (ps_ret (pe_lst (pa_cons (pe_num T.c_EVENT_IS_OPEN) pa_nil)))) pss_nil)
      (pss_cons (ps_if (pt_cmp (pc_din hu (pv 1) (pe_f (pv 0) rfl))) (pss_one (ps_ret (pe_lst (pa_cons (pe_num T.c_MEMBER_EXISTS) pa_nil)))) pss_nil)
      (pss_cons (ps_if (pt_cmpR op_eq (pe_callB call_lenD rfl B.b_len PySem.boot_len (pa_cons (pe_f (pv 0) rfl) pa_nil)) (pe_num T.c_MOST_MEMBERS) (nomark _)) (pss_one (ps_ret (pe_lst (pa_cons (pe_num T.c_TOO_MANY_MEMBERS) pa_nil)))) pss_nil)
      (pss_cons (ps_dput hu (pe_f (pv 0) rfl) (pv 1) (pe_new N_Member (hr.mono (by decide)) (pa_cons (pv 1) (pa_cons (pv 2) (pa_cons (pv 3) (pa_cons (pv 4) (pa_cons (pv 5) pa_nil)))))) rfl)
      (pss_one (ps_ret (pe_lst (pa_cons pe_int pa_nil)))))))))), ?_⟩
    refine ⟨_, isB_and (isB_call rfl) (isB_and (isB_call rfl) (isB_call rfl)), _, isT_not (isT_and (isT_val (isB_call rfl)) (isT_and (isT_val (isB_var rfl)) (isT_val (isB_call rfl)))), ?_⟩
    have estep : Vbchah.step s (.member key margin fund gain weight) = if (Vbchah.within key 1 Vbchah.KEY && ((Vbchah.within margin 0 Vbchah.MONEY && (Vbchah.within fund 0 Vbchah.MONEY && Vbchah.within gain 0 Vbchah.MONEY)) && Vbchah.within weight 0 Vbchah.WEIGHT)) = false then (s, [-1])
        else if s.event.isSome = true then (s, [-5]) else if (Vbchah.memberAt s key.toNat).isSome = true then (s, [-2]) else if Vbchah.MEMBERS ≤ s.members.length then (s, [-9])
        else ({ s with members := Vbchah.put ⟨key.toNat, margin.toNat, fund.toNat, gain.toNat, weight.toNat⟩ s.members }, [0]) := by
      have e : (Vbchah.within key 1 Vbchah.KEY && ((Vbchah.within margin 0 Vbchah.MONEY && (Vbchah.within fund 0 Vbchah.MONEY && Vbchah.within gain 0 Vbchah.MONEY)) && Vbchah.within weight 0 Vbchah.WEIGHT)) = (Vbchah.keyed key && (Vbchah.money margin && (Vbchah.money fund && (Vbchah.money gain && Vbchah.within weight 0 Vbchah.WEIGHT)))) := by
        rw [Bool.and_assoc, Bool.and_assoc]
        rfl
      try dsimp only
      rw [e]
      rfl
    rw [estep] at an
    cases hb : (Vbchah.within key 1 Vbchah.KEY && ((Vbchah.within margin 0 Vbchah.MONEY && (Vbchah.within fund 0 Vbchah.MONEY && Vbchah.within gain 0 Vbchah.MONEY)) && Vbchah.within weight 0 Vbchah.WEIGHT)) with
    | false =>
      rw [if_pos hb] at an
      exact ifT rfl ⟨len1, fun p hp => an.view A (Same.refl _) hp rfl⟩
    | true =>
      rw [if_neg (by rw [hb]; exact Bool.noConfusion)] at an
      refine ifF rfl ⟨_, rfl, h, CH, dx, _, _, rfl, ho, O.cl, O.nD, hF_def _ _ _ _, _, rfl, ?_⟩
      rw [A1.notNone]
      cases he : s.event.isSome with
      | true =>
        rw [if_pos he] at an
        exact ifT rfl ⟨len1, fun p hp => an.view A (Same.refl _) hp rfl⟩
      | false =>
        rw [if_neg (by rw [he]; exact Bool.noConfusion)] at an
        rw [Bool.and_eq_true, Bool.and_eq_true, Bool.and_eq_true, Bool.and_eq_true] at hb
        obtain ⟨k', ek, ek2, hk1, hk⟩ := key_nat (by decide) hb.1
        obtain ⟨a', ea, ea2, _, ha⟩ := key_nat (Int.le_refl 0) hb.2.1.1
        obtain ⟨b', eb, eb2, _, hb'⟩ := key_nat (Int.le_refl 0) hb.2.1.2.1
        obtain ⟨c', ec, ec2, _, hc⟩ := key_nat (Int.le_refl 0) hb.2.1.2.2
        obtain ⟨w', ew, ew2, _, hw⟩ := key_nat (Int.le_refl 0) hb.2.2
        rw [ek2, ea2, eb2, ec2, ew2] at an
        subst ek ea eb ec ew
        refine ifF rfl ⟨_, rfl, _, rfl, h, CH, dx, _, _, rfl, ho, O.cl, O.nMe, hF_members _ _ _ _, md, _, rfl, DGet.k (k := Sum.inl (k' : Int)) A1.dict, _, rfl, ?_⟩
        rw [mem_isSome A1 A.wf k']
        cases hm : (Vbchah.memberAt s k').isSome with
        | true =>
          rw [if_pos hm] at an
          exact ifT rfl ⟨len1, fun p hp => an.view A (Same.refl _) hp rfl⟩
        | false =>
          rw [if_neg (by rw [hm]; exact Bool.noConfusion)] at an
          refine ifF rfl ⟨_, rfl, h, CH, dx, _, _, rfl, ho, O.cl, O.nMe, hF_members _ _ _ _, md, _, rfl, A1.dict, rfl, _, rfl, ?_⟩
          have hlm : (memKV ms).length = s.members.length := by
            have := A1.perm.length_eq
            rw [List.length_map] at this ⊢
            exact this
          have hl12 := A.wf.len
          rw [dec_nat (b := 12) (c := 12) rfl, hlm]
          refine ite2 (fun z => ?_) fun z => ?_
          · have z := of_decide_eq_true z
            rw [if_pos (by unfold Vbchah.MEMBERS; omega)] at an
            exact ⟨len1, fun p hp => an.view A (Same.refl _) hp rfl⟩
          · have z : ¬ s.members.length = 12 := fun y => z (decide_eq_true y)
            rw [if_neg (by unfold Vbchah.MEMBERS; omega)] at an
            have hmn : Vbchah.memberAt s k' = none := by
              cases e : Vbchah.memberAt s k' with
              | none => rfl
              | some _ => rw [e] at hm; cases hm
            have hno := memberAt_none.mp hmn
            have hvn : valV (memKV ms) (Sum.inl (k' : Int)) = none := valV_memNone fun q hq y => hno q.2 (A1.mem hq) (by omega)
            refine ⟨_, rfl, _, rfl, _, rfl, _, rfl, _, rfl, fun x dy nx ndy nxy => ⟨x, dy, ⟨k', a', b', c', w'⟩, rfl, upd_same, fun H2 hx kp kn => ⟨rfl, ?_⟩⟩⟩
            have s2 : Same H H2 := Same.made nx ndy kp
            have A2 := A1.same s2
            obtain ⟨dx2, ho2⟩ := A2.obj
            refine ⟨_, rfl, h, CH, dx2, _, _, rfl, ho2, O.cl, O.nMe, hF_members _ _ _ _, _, rfl, md, _, rfl, DPut.k (k := Sum.inl (k' : Int)) A2.dict (small12 (by rw [hlm]; exact hl12)), ?_⟩
            have eput : putK (memKV ms) (Sum.inl (k' : Int)) (V.ref x) = memKV (ms ++ [(x, ⟨k', a', b', c', w'⟩)]) := by
              rw [putK_new _ hvn]
              show memKV ms ++ _ = List.map _ (ms ++ _)
              rw [List.map_append]
              rfl
            have edv := A1.dv_none he
            have een : s.event = none := by
              cases e : s.event with
              | none => rfl
              | some _ => rw [e] at he; cases he
            have nxs : ∀ q ∈ ms, q.1 ≠ x := fun q hq => by
              obtain ⟨dm, e⟩ := A1.mems q hq
              exact ne_of_none e nx
            have nxm : x ≠ md := fun e => by rw [e, A1.dict] at nx; cases nx
            have HA : HouseAt CH CM (upd H2 md (.dK (putK (memKV ms) (Sum.inl (k' : Int)) (V.ref x)))) h { s with members := Vbchah.put ⟨k', a', b', c', w'⟩ s.members } md (ms ++ [(x, ⟨k', a', b', c', w'⟩)]) dv ls := by
              refine ⟨⟨dx2, by rw [upd_ne (fun e => A2.ne2 e.symm)]; exact ho2⟩, by rw [upd_same, eput], fun q hq => ?_, ?_, ?_, fun _ => edv, fun d n e => ?_⟩
              · rcases List.mem_append.mp hq with m | m
                · obtain ⟨dm, e⟩ := A2.mems q m
                  exact ⟨dm, by rw [upd_ne (A2.ne3 m)]; exact e⟩
                · rw [List.mem_singleton.mp m]
                  exact ⟨dy, by rw [upd_ne nxm]; exact hx⟩
              · rw [List.map_append, List.nodup_append]
                refine ⟨A1.nd, by simp, fun a ha b hb e => ?_⟩
                obtain ⟨q, hq, rfl⟩ := List.mem_map.mp ha
                have : b = x := by simpa using hb
                exact nxs q hq (by rw [e, this])
              · rw [List.map_append]
                refine ((List.perm_append_comm).trans ?_).trans put_perm.symm
                exact A1.perm.cons _
              · have e : s.event = some (d, n) := e
                rw [een] at e
                cases e
            have W' : Wf { s with members := Vbchah.put ⟨k', a', b', c', w'⟩ s.members } := by
              refine ⟨put_rising A.wf.rising fun m hm => hno m hm, fun m hm => ?_, ?_, A.wf.first, A.wf.last, A.wf.multiple, fun e he2 => ?_⟩
              · rcases mem_put.mp hm with rfl | hm
                · exact ⟨by show 1 ≤ k'; omega, hk, ha, hb', hc, hw⟩
                · exact A.wf.mem m hm
              · show (Vbchah.put _ s.members).length ≤ 12
                rw [put_len]
                omega
              · have he2 : s.event = some e := he2
                rw [een] at he2
                cases he2
            exact ⟨len1, fun p hp => an.make ((same_keepL s2).trans (KeepL.upd A2.dict rfl)) ⟨⟨md, _, dv, ls, HA⟩, W'⟩ (fun p hp => s2.free (none_upd hp)) hp rfl⟩
end
end U
end
section
set_option linter.all false
set_option Elab.async false
set_option linter.all false
set_option maxRecDepth 100000
set_option maxHeartbeats 2000000
namespace U
open PySem PySem.Spec PyProof.Rows L2 L3 Lb
section
variable {P : Program} {w : World} {K : PySem.W.Frag} {mg : Str → Option Value} {base : Heap} {C CH CM nob cnt : Addr}
abbrev s_is_change : Stmt := top 73
theorem sc_is_change : FnScope ["what", "amount"] ["what", "amount"] (defScope s_is_change) := ⟨rfl, rfl, rfl, by decide +kernel, rfl, by decide +kernel, by decide +kernel⟩
def spIsChange : Sp := fun vs H Q _ => ∃ what amount : Int, vs = [.int what, .int amount] ∧ Q (.bl (Vbchah.within what 1 4 && Vbchah.within amount 0 (if what = 4 then Vbchah.WEIGHT else Vbchah.MONEY))) H
theorem ok_is_change {f : Addr} {fd : FuncData} (F : Fun K "is_change" "is_change" s_is_change f fd) (T : Tn mg) (D_is_money : Def P w K mg base "is_money" 1 ["amount"] (spIn 0 Vbchah.MONEY)) (D_is_weight : Def P w K mg base "is_weight" 1 ["amount"] (spIn 0 Vbchah.WEIGHT)) : FnOk P w K mg base CX0 2 f fd ["what", "amount"] (spIsChange) := by
  refine F.ok sc_is_change (fun vs H Q E h => ?_) (fun cdv A outer st H vs Q E hr h => ?_)
  · obtain ⟨what, amount, rfl, _⟩ := h
    rfl
  · obtain ⟨what, amount, rfl, k⟩ := h
    refine ⟨_, (pss_cons (ps_if (pt_cmpR op_eq (pv 0) (pe_num T.c_WEIGHT) (nomark _)) (pss_one (ps_ret (pe_def D_is_weight (hr.mono (by decide)) (pa_cons (pv 1) pa_nil)))) pss_nil)
      (pss_one (ps_ret (pe_and (pe_chain op_le op_le (pe_num T.c_MARGIN) (pv 0) (pe_num T.c_GAIN)) (pe_one (pe_def D_is_money (hr.mono (by decide)) (pa_cons (pv 1) pa_nil))))))), ?_⟩
    refine ⟨_, rfl, rfl, _, rfl, ?_⟩
    rw [dec_int2]
    refine ite2 (fun z => ?_) fun z => ?_
    · have z := of_decide_eq_true z
      subst z
      refine ⟨_, rfl, amount, rfl, ?_⟩
      rw [if_pos rfl] at k
      have e : Vbchah.within 4 1 4 = true := by decide
      rw [e, Bool.true_and] at k
      exact k
    · have z : ¬ what = 4 := fun y => z (decide_eq_true y)
      rw [if_neg z] at k
      refine ⟨_, rfl, _, _, rfl, rfl, _, rfl, ite2 (fun h1 => ⟨_, _, rfl, rfl, _, rfl, ite2 (fun h2 => ⟨_, rfl, amount, rfl, ?_⟩) fun h2 => ?_⟩) fun h1 => ⟨_, rfl, ifF rfl ?_⟩⟩
      · have h1 := of_decide_eq_true h1
        have h2 := of_decide_eq_true h2
        have e : Vbchah.within what 1 4 = true := within_iff.mpr ⟨h1, by show what ≤ 4; omega⟩
        rw [e, Bool.true_and] at k
        exact k
      · have e : Vbchah.within what 1 4 = false := Bool.eq_false_iff.mpr fun y => h2 (decide_eq_true (by have := (within_iff.mp y).2; have : what ≤ 4 := this; omega))
        rw [e, Bool.false_and] at k
        exact k
      · have e : Vbchah.within what 1 4 = false := Bool.eq_false_iff.mpr fun y => h1 (decide_eq_true (within_iff.mp y).1)
        rw [e, Bool.false_and] at k
        exact k
abbrev s_set_value : Stmt := top 74
theorem sc_set_value : FnScope ["member", "what", "amount"] ["member", "what", "amount"] (defScope s_set_value) := ⟨rfl, rfl, rfl, by decide +kernel, rfl, by decide +kernel, by decide +kernel⟩
def spSetValue (CM : Addr) : Sp := fun vs H Q _ => ∃ (a dx : Addr) (m : VMem) (what : Int) (n : Nat), vs = [.ref a, .int what, .int (n : Nat)] ∧ H a = some (.ins CM dx (mF m)) ∧ 1 ≤ what ∧ what ≤ 4 ∧
  Q .non (upd H a (.ins CM dx (mF (Vbchah.changed m what n))))
theorem ok_set_value {f : Addr} {fd : FuncData} (F : Fun K "set_value" "set_value" s_set_value f fd) (M : TM K CM) (T : Tn mg) : FnOk P w K mg base CX0 1 f fd ["member", "what", "amount"] (spSetValue CM) := by
  refine F.ok sc_set_value (fun vs H Q E h => ?_) (fun cdv A outer st H vs Q E hr h => ?_)
  · obtain ⟨a, dx, m, what, n, rfl, _⟩ := h
    rfl
  · obtain ⟨a, dx, m, what, n, rfl, ha, w1, w4, k⟩ := h
    refine ⟨_, (pss_one (ps_if (pt_cmpR op_eq (pv 1) (pe_num T.c_MARGIN) (nomark _)) (pss_one (ps_fld (pv 0) (pv 2) rfl)) (pss_one (ps_if (pt_cmpR op_eq (pv 1) (pe_num T.c_FUND) (nomark _)) (pss_one (ps_fld (pv 0) (pv 2) rfl)) (pss_one (ps_if (pt_cmpR op_eq (pv 1) (pe_num T.c_GAIN) (nomark _)) (pss_one (ps_fld (pv 0) (pv 2) rfl)) (pss_one (ps_fld (pv 0) (pv 2) rfl)))))))), ?_⟩
    unfold Vbchah.changed at k
    refine ⟨_, rfl, rfl, _, rfl, ?_⟩
    rw [dec_int2]
    refine ite2 (fun z => ?_) fun z => ?_
    · rw [if_pos (of_decide_eq_true z)] at k
      exact ⟨_, rfl, _, rfl, a, CM, dx, _, rfl, ha, M.cl, M.nMa, (by show 5 < 1000; decide), k⟩
    rw [if_neg (fun y => z (decide_eq_true y))] at k
    refine ⟨_, rfl, rfl, _, rfl, ?_⟩
    rw [dec_int2]
    refine ite2 (fun z => ?_) fun z => ?_
    · rw [if_pos (of_decide_eq_true z)] at k
      exact ⟨_, rfl, _, rfl, a, CM, dx, _, rfl, ha, M.cl, M.nF, (by show 5 < 1000; decide), k⟩
    rw [if_neg (fun y => z (decide_eq_true y))] at k
    refine ⟨_, rfl, rfl, _, rfl, ?_⟩
    rw [dec_int2]
    refine ite2 (fun z => ?_) fun z => ?_
    · rw [if_pos (of_decide_eq_true z)] at k
      exact ⟨_, rfl, _, rfl, a, CM, dx, _, rfl, ha, M.cl, M.nG, (by show 5 < 1000; decide), k⟩
    rw [if_neg (fun y => z (decide_eq_true y))] at k
    exact ⟨_, rfl, _, rfl, a, CM, dx, _, rfl, ha, M.cl, M.nW, (by show 5 < 1000; decide), k⟩
theorem mF_inj {a b : VMem} (h : mF a = mF b) : a = b := by
  unfold mF at h
  injection h with h1 h
  injection h with h2 h
  injection h with h3 h
  injection h with h4 h
  injection h with h5 _
  injection h1 with _ h1
  injection h2 with _ h2
  injection h3 with _ h3
  injection h4 with _ h4
  injection h5 with _ h5
  injection h1 with h1
  injection h2 with h2
  injection h3 with h3
  injection h4 with h4
  injection h5 with h5
  cases a
  cases b
  simp only [Vbchah.Member.mk.injEq]
  exact ⟨Int.ofNat.inj h1, Int.ofNat.inj h2, Int.ofNat.inj h3, Int.ofNat.inj h4, Int.ofNat.inj h5⟩
theorem HouseAt.turn {H H' : Hp} {h : Addr} {s s' : VSt} {md : Addr} {ms : List (Addr × VMem)} {dv : V} {ls : Int} (A : HouseAt CH CM H h s md ms dv ls) (f : VMem → VMem) (fk : ∀ m, (f m).key = m.key)
    (ho : ∃ dx, H' h = some (.ins CH dx (hF md s' dv ls))) (hd : H' md = some (.dK (memKV ms))) (hm : ∀ q ∈ ms, MemAt CM H' q.1 (f q.2)) (hs : s'.members = s.members.map f) (he : s'.event = s.event) :
    HouseAt CH CM H' h s' md (ms.map fun q => (q.1, f q.2)) dv ls := by
  refine ⟨ho, ?_, fun q hq => ?_, ?_, ?_, fun e => A.ev0 (he ▸ e), fun d n e => ?_⟩
  · rw [hd]
    unfold memKV
    rw [List.map_map]
    congr 2
    refine List.map_congr_left fun q _ => ?_
    show _ = ((Sum.inl ((f q.2).key : Int) : Key), V.ref q.1)
    rw [fk]
  · obtain ⟨z, hz, rfl⟩ := List.mem_map.mp hq
    exact hm z hz
  · rw [List.map_map]
    exact A.nd
  · rw [List.map_map, hs]
    have := A.perm.map f
    rw [List.map_map] at this
    exact this
  · obtain ⟨e1, q, hq, e2, e3⟩ := A.ev1 d n (he ▸ e)
    exact ⟨e1, (q.1, f q.2), List.mem_map.mpr ⟨q, hq, rfl⟩, by show (f q.2).key = d; rw [fk]; exact e2, e3⟩
def spChangeM (CH CM : Addr) : Sp := fun vs H Q _ => ∃ (h : Addr) (s : VSt) (key : Int) (what : Int) (amount : Int), vs = [.ref h, .int key, .int what, .int amount] ∧ HSt CH CM H h s ∧ Ans CH CM H h (Vbchah.step s (.change key what amount)) Q
abbrev s_change_member : Stmt := top 72
theorem sc_change_member : FnScope ["house", "key", "what", "amount"] ["house", "key", "what", "amount"] (defScope s_change_member) := ⟨rfl, rfl, rfl, by decide +kernel, rfl, by decide +kernel, by decide +kernel⟩
theorem isB_change {σ : L2.St} {i j : Nat} {a b : Int} (h1 : σ[i]? = some (some (.int a))) (h2 : σ[j]? = some (some (.int b))) : IsB (tCall spIsChange [] E0 (tCons (tVar i) (tCons (tVar j) tNil))) σ (Vbchah.within a 1 4 && Vbchah.within b 0 (if a = 4 then Vbchah.WEIGHT else Vbchah.MONEY)) := fun H Q q => ⟨_, h1, _, h2, a, b, rfl, q⟩
theorem ok_change_member {f : Addr} {fd : FuncData} (F : Fun K "change_member" "change_member" s_change_member f fd) (O : TH K CH) (T : Tn mg) (D_is_member_key : Def P w K mg base "is_member_key" 1 ["key"] (spIn 1 Vbchah.KEY)) (D_is_change : Def P w K mg base "is_change" 2 ["what", "amount"] (spIsChange)) (D_set_value : Def P w K mg base "set_value" 1 ["member", "what", "amount"] (spSetValue CM)) : FnOk P w K mg base CX0 3 f fd ["house", "key", "what", "amount"] (spChangeM CH CM) := by
  refine F.ok sc_change_member (fun vs H Q E h => ?_) (fun cdv A outer st H vs Q E hr h => ?_)
  · obtain ⟨h, s, key, what, amount, rfl, _⟩ := h
    rfl
  · obtain ⟨h, s, key, what, amount, rfl, A, an⟩ := h
    have hu := hu_of hr
    obtain ⟨md, ms, dv, ls, A1⟩ := A.ex
    obtain ⟨dx, ho⟩ := A1.obj
    refine ⟨_, (pss_cons (ps_if (pt_isB (pt_not (pw_and (pt_val (pe_def D_is_member_key (hr.mono (by decide)) (pa_cons (pv 1) pa_nil))) (pw_and1 (pt_val (pe_def D_is_change (hr.mono (by decide)) (pa_cons (pv 2) (pa_cons (pv 3) pa_nil)))))).pt)) (pss_one (ps_ret (pe_lst (pa_cons (pe_num T.c_OUT_OF_RANGE) pa_nil)))) pss_nil)
      (pss_cons (ps_if (pt_cmp (pc_notN (pe_f (pv 0) rfl))) (pss_one (ps_ret (pe_lst (pa_cons (pe_num T.c_EVENT_IS_OPEN) pa_nil)))) pss_nil)
      (pss_cons (ps_if (pt_cmp (pc_dnotin hu (pv 1) (pe_f (pv 0) rfl))) (pss_one (ps_ret (pe_lst (pa_cons (pe_num T.c_NO_MEMBER) pa_nil)))) pss_nil)
      (pss_cons (ps_expr (pe_def D_set_value (hr.mono (by decide)) (pa_cons (pe_dget hu (pe_f (pv 0) rfl) (pv 1) (fun _ _ => rfl)) (pa_cons (pv 2) (pa_cons (pv 3) pa_nil)))))
      (pss_one (ps_ret (pe_lst (pa_cons pe_int pa_nil)))))))), ?_⟩
    refine ⟨_, isT_not (isT_and (isT_val (isB_call rfl)) (isT_val (isB_change rfl rfl))), ?_⟩
    have estep : Vbchah.step s (.change key what amount) = if (Vbchah.within key 1 Vbchah.KEY && (Vbchah.within what 1 4 && Vbchah.within amount 0 (if what = 4 then Vbchah.WEIGHT else Vbchah.MONEY))) = false then (s, [-1])
        else if s.event.isSome = true then (s, [-5]) else if (Vbchah.memberAt s key.toNat).isNone = true then (s, [-4])
        else ({ s with members := s.members.map fun m => if m.key = key.toNat then Vbchah.changed m what amount.toNat else m }, [0]) := rfl
    rw [estep] at an
    cases hb : (Vbchah.within key 1 Vbchah.KEY && (Vbchah.within what 1 4 && Vbchah.within amount 0 (if what = 4 then Vbchah.WEIGHT else Vbchah.MONEY))) with
    | false =>
      rw [if_pos hb] at an
      exact ifT rfl ⟨len1, fun p hp => an.view A (Same.refl _) hp rfl⟩
    | true =>
      rw [if_neg (by rw [hb]; exact Bool.noConfusion)] at an
      refine ifF rfl ⟨_, rfl, h, CH, dx, _, _, rfl, ho, O.cl, O.nD, hF_def _ _ _ _, _, rfl, ?_⟩
      rw [A1.notNone]
      cases he : s.event.isSome with
      | true =>
        rw [if_pos he] at an
        exact ifT rfl ⟨len1, fun p hp => an.view A (Same.refl _) hp rfl⟩
      | false =>
        rw [if_neg (by rw [he]; exact Bool.noConfusion)] at an
        have hb2 := hb
        rw [Bool.and_eq_true, Bool.and_eq_true] at hb2
        obtain ⟨k', ek, ek2, hk1, hk⟩ := key_nat (by decide) hb2.1
        obtain ⟨a', ea, ea2, _, ha⟩ := key_nat (Int.le_refl 0) hb2.2.2
        have hw := within_iff.mp hb2.2.1
        have hw4 : what ≤ 4 := hw.2
        rw [ek2, ea2] at an
        subst ek ea
        refine ifF rfl ⟨_, rfl, _, rfl, h, CH, dx, _, _, rfl, ho, O.cl, O.nMe, hF_members _ _ _ _, md, _, rfl, DGet.k (k := Sum.inl (k' : Int)) A1.dict, _, rfl, ?_⟩
        rw [mem_isSome A1 A.wf k', Option.not_isSome]
        cases hm : Vbchah.memberAt s k' with
        | none =>
          rw [hm, if_pos Option.isNone_none] at an
          exact ifT rfl ⟨len1, fun p hp => an.view A (Same.refl _) hp rfl⟩
        | some m =>
          rw [hm, if_neg (by rw [Option.isNone_some]; exact Bool.noConfusion)] at an
          obtain ⟨m1, m2⟩ := memberAt_some hm
          obtain ⟨q, hq, e2⟩ := List.mem_map.mp (A1.perm.symm.subset m1)
          have e3 : q.2.key = k' := by rw [e2]; exact m2
          have hv := valV_mem (A1.keysNd A.wf) q hq
          rw [e3] at hv
          obtain ⟨dq, hqa⟩ := A1.mems q hq
          refine ifF rfl ⟨_, rfl, h, CH, dx, _, _, rfl, ho, O.cl, O.nMe, hF_members _ _ _ _, _, rfl, md, _, rfl, dget_of A1.dict hv, _, rfl, _, rfl, q.1, dq, q.2, what, a', rfl, hqa, hw.1, hw4, ?_⟩
          have een : s.event = none := by
            cases e : s.event with
            | none => rfl
            | some _ => rw [e] at he; cases he
          have sb : SameBut q.1 H (upd H q.1 (.ins CM dq (mF (Vbchah.changed q.2 what a')))) := SameBut.upd
          have knd := A1.keysNd A.wf
          have only : ∀ z ∈ ms, z.1 ≠ q.1 → z.2.key ≠ k' := fun z hz hne e => by
            have hvz := valV_mem knd z hz
            rw [e] at hvz
            rw [hvz] at hv
            injection hv with hv
            injection hv with hv
            exact hne hv
          have HA : HouseAt CH CM (upd H q.1 (.ins CM dq (mF (Vbchah.changed q.2 what a')))) h { s with members := s.members.map fun m => if m.key = k' then Vbchah.changed m what a' else m } md _ dv ls :=
            A1.turn (s' := { s with members := s.members.map fun m => if m.key = k' then Vbchah.changed m what a' else m }) (fun m => if m.key = k' then Vbchah.changed m what a' else m) (fun m => by split; exact changed_key m what a'; rfl) ⟨dx, sb _ _ ho (fun e => A1.ne1 hq e.symm)⟩ (sb _ _ A1.dict (fun e => A1.ne3 hq e.symm))
              (fun z hz => by
                by_cases hz1 : z.1 = q.1
                · have ezk : z.2 = q.2 := by
                    have hvz := (A1.mems z hz)
                    obtain ⟨dz, hza⟩ := hvz
                    rw [hz1, hqa] at hza
                    have := Option.some.inj hza
                    injection this with _ _ this
                    exact mF_inj this.symm
                  rw [hz1]
                  show MemAt CM _ q.1 (if z.2.key = k' then Vbchah.changed z.2 what a' else z.2)
                  rw [ezk, if_pos e3]
                  exact ⟨dq, upd_same⟩
                · show MemAt CM _ z.1 (if z.2.key = k' then Vbchah.changed z.2 what a' else z.2)
                  rw [if_neg (only z hz hz1)]
                  obtain ⟨dz, hza⟩ := A1.mems z hz
                  exact ⟨dz, sb _ _ hza hz1⟩) rfl rfl
          have W' : Wf { s with members := s.members.map fun m => if m.key = k' then Vbchah.changed m what a' else m } := by
            have := step_wf A.wf (.change (k' : Int) what (a' : Int))
            rw [estep, if_neg (by rw [hb]; exact Bool.noConfusion), if_neg (by rw [he]; exact Bool.noConfusion), Int.toNat_natCast, hm, if_neg (by rw [Option.isNone_some]; exact Bool.noConfusion), Int.toNat_natCast] at this
            exact this
          exact ⟨len1, fun p hp => an.make (KeepL.upd hqa rfl) ⟨⟨md, _, dv, ls, HA⟩, W'⟩ (fun p hp => none_upd hp) hp rfl⟩
def spOpenE (CH CM : Addr) : Sp := fun vs H Q _ => ∃ (h : Addr) (s : VSt) (key : Int), vs = [.ref h, .int key] ∧ HSt CH CM H h s ∧ Ans CH CM H h (Vbchah.step s (.open_ key)) Q
abbrev s_open_event : Stmt := top 75
theorem sc_open_event : FnScope ["house", "key"] ["house", "key"] (defScope s_open_event) := ⟨rfl, rfl, rfl, by decide +kernel, rfl, by decide +kernel, by decide +kernel⟩
theorem ok_open_event {f : Addr} {fd : FuncData} (F : Fun K "open_event" "open_event" s_open_event f fd) (O : TH K CH) (T : Tn mg) (D_is_member_key : Def P w K mg base "is_member_key" 1 ["key"] (spIn 1 Vbchah.KEY)) : FnOk P w K mg base CX0 2 f fd ["house", "key"] (spOpenE CH CM) := by
  refine F.ok sc_open_event (fun vs H Q E h => ?_) (fun cdv A outer st H vs Q E hr h => ?_)
  · obtain ⟨h, s, key, rfl, _⟩ := h
    rfl
  · obtain ⟨h, s, key, rfl, A, an⟩ := h
    have hu := hu_of hr
    obtain ⟨md, ms, dv, ls, A1⟩ := A.ex
    obtain ⟨dx, ho⟩ := A1.obj
    refine ⟨_, (pss_cons (ps_if (pt_not (pt_val (pe_def D_is_member_key (hr.mono (by decide)) (pa_cons (pv 1) pa_nil)))) (pss_one (ps_ret (pe_lst (pa_cons (pe_num T.c_OUT_OF_RANGE) pa_nil)))) pss_nil)
      (pss_cons (ps_if (pt_cmp (pc_notN (pe_f (pv 0) rfl))) (pss_one (ps_ret (pe_lst (pa_cons (pe_num T.c_EVENT_IS_OPEN) pa_nil)))) pss_nil)
      (pss_cons (ps_if (pt_cmp (pc_dnotin hu (pv 1) (pe_f (pv 0) rfl))) (pss_one (ps_ret (pe_lst (pa_cons (pe_num T.c_NO_MEMBER) pa_nil)))) pss_nil)
      (pss_cons (ps_fld (pv 0) (pe_dget hu (pe_f (pv 0) rfl) (pv 1) (fun _ _ => rfl)) rfl)
      (pss_cons (ps_fld (pv 0) pe_int rfl)
      (pss_one (ps_ret (pe_lst (pa_cons pe_int pa_nil))))))))), ?_⟩
    refine ⟨_, rfl, key, rfl, _, rfl, ?_⟩
    have estep : Vbchah.step s (.open_ key) = if Vbchah.within key 1 Vbchah.KEY = false then (s, [-1]) else if s.event.isSome = true then (s, [-5]) else if (Vbchah.memberAt s key.toNat).isNone = true then (s, [-4]) else ({ s with event := some (key.toNat, 0) }, [0]) := rfl
    rw [estep] at an
    cases hb : Vbchah.within key 1 Vbchah.KEY with
    | false =>
      rw [if_pos hb] at an
      exact ifT rfl ⟨len1, fun p hp => an.view A (Same.refl _) hp rfl⟩
    | true =>
      rw [if_neg (by rw [hb]; exact Bool.noConfusion)] at an
      refine ifF rfl ⟨_, rfl, h, CH, dx, _, _, rfl, ho, O.cl, O.nD, hF_def _ _ _ _, _, rfl, ?_⟩
      rw [A1.notNone]
      cases he : s.event.isSome with
      | true =>
        rw [if_pos he] at an
        exact ifT rfl ⟨len1, fun p hp => an.view A (Same.refl _) hp rfl⟩
      | false =>
        rw [if_neg (by rw [he]; exact Bool.noConfusion)] at an
        obtain ⟨k', ek, ek2, hk1, hk⟩ := key_nat (by decide) hb
        rw [ek2] at an
        subst ek
        refine ifF rfl ⟨_, rfl, _, rfl, h, CH, dx, _, _, rfl, ho, O.cl, O.nMe, hF_members _ _ _ _, md, _, rfl, DGet.k (k := Sum.inl (k' : Int)) A1.dict, _, rfl, ?_⟩
        rw [mem_isSome A1 A.wf k', Option.not_isSome]
        cases hm : Vbchah.memberAt s k' with
        | none =>
          rw [hm, if_pos Option.isNone_none] at an
          exact ifT rfl ⟨len1, fun p hp => an.view A (Same.refl _) hp rfl⟩
        | some m =>
          rw [hm, if_neg (by rw [Option.isNone_some]; exact Bool.noConfusion)] at an
          obtain ⟨m1, m2⟩ := memberAt_some hm
          obtain ⟨q, hq, e2⟩ := List.mem_map.mp (A1.perm.symm.subset m1)
          have e3 : q.2.key = k' := by rw [e2]; exact m2
          have hv := valV_mem (A1.keysNd A.wf) q hq
          rw [e3] at hv
          refine ifF rfl ⟨_, rfl, h, CH, dx, _, _, rfl, ho, O.cl, O.nMe, hF_members _ _ _ _, _, rfl, md, _, rfl, dget_of A1.dict hv, _, rfl, h, CH, dx, _, rfl, ho, O.cl, O.nD, (by show 8 < 1000; decide), ?_⟩
          refine ⟨_, rfl, h, CH, dx, _, rfl, upd_same, O.cl, O.nLo, (by show 8 < 1000; decide), ?_⟩
          have sb : ∀ {o1 o2 : HO}, SameBut h H (upd (upd H h o1) h o2) := fun {o1 o2} b o e nb => by rw [upd_ne nb, upd_ne nb]; exact e
          have W' : Wf { s with event := some (k', 0) } := ⟨A.wf.rising, A.wf.mem, A.wf.len, A.wf.first, A.wf.last, A.wf.multiple, fun e he2 => by
            have he2 : some (k', 0) = some e := he2
            have := Option.some.inj he2
            subst this
            exact ⟨⟨m, m1, m2⟩, Nat.zero_le _⟩⟩
          refine ⟨len1, fun p hp => an.make (keepL_but ho rfl sb) ⟨⟨md, ms, .ref q.1, 0, A1.house (s' := { s with event := some (k', 0) }) upd_same sb rfl (fun e => (nomatch e)) fun d n e => ?_⟩, W'⟩ (fun p hp => none_upd (none_upd hp)) hp rfl⟩
          have e : some (k', 0) = some (d, n) := e
          injection e with e
          injection e with e4 e5
          exact ⟨by rw [← e5]; rfl, q, hq, by rw [e3, e4], rfl⟩
def spLoseU (CH CM : Addr) : Sp := fun vs H Q _ => ∃ (h : Addr) (s : VSt) (n : Int), vs = [.ref h, .int n] ∧ HSt CH CM H h s ∧ Ans CH CM H h (Vbchah.step s (.lose n)) Q
abbrev s_lose_units : Stmt := top 76
theorem sc_lose_units : FnScope ["house", "amount", "loss", "borne_more"] ["house", "amount"] (defScope s_lose_units) := ⟨rfl, rfl, rfl, by decide +kernel, rfl, by decide +kernel, by decide +kernel⟩
theorem HAt.setLoss {H : Hp} {h : Addr} {s : VSt} {d n : Nat} (A : HAt CH CM H h s d n) (m : Nat) (hm : m ≤ Vbchah.LOSS) : ∃ dx fs, H h = some (.ins CH dx fs) ∧ fs.length < 1000 ∧
    ∀ H', H' h = some (.ins CH dx (putF "loss" (.int (m : Nat)) fs)) → SameBut h H H' → HSt CH CM H' h { s with event := some (d, m) } := by
  obtain ⟨md, ms, dv, ls, a⟩ := A.ex
  obtain ⟨dx, ho⟩ := a.obj
  obtain ⟨_, q, hq, e2, e3⟩ := a.ev1 d n A.ev
  refine ⟨dx, _, ho, (by show 8 < 1000; decide), fun H' ho' sb => ⟨⟨md, ms, dv, (m : Nat), a.house (s' := { s with event := some (d, m) }) ho' sb rfl (fun e => (nomatch e)) fun d' n' e => ?_⟩, ⟨A.wf.rising, A.wf.mem, A.wf.len, A.wf.first, A.wf.last, A.wf.multiple, fun e he2 => ?_⟩⟩⟩
  · have e : some (d, m) = some (d', n') := e
    injection e with e
    injection e with e4 e5
    exact ⟨by rw [← e5], q, hq, by rw [e2, e4], e3⟩
  · have he2 : some (d, m) = some e := he2
    have := Option.some.inj he2
    subst this
    exact ⟨(A.wf.ev _ A.ev).1, hm⟩
theorem ok_lose_units {f : Addr} {fd : FuncData} (F : Fun K "lose_units" "lose_units" s_lose_units f fd) (O : TH K CH) (T : Tn mg) (D_is_some_units : Def P w K mg base "is_some_units" 1 ["amount"] (spIn 1 Vbchah.LOSS)) (D_covered_at : Def P w K mg base "covered_at" 6 ["house", "loss"] (spCovered CH CM)) (D_uncovered_at : Def P w K mg base "uncovered_at" 7 ["house", "loss"] (spUncovered CH CM)) : FnOk P w K mg base CX0 8 f fd ["house", "amount"] (spLoseU CH CM) := by
  refine F.ok sc_lose_units (fun vs H Q E h => ?_) (fun cdv A outer st H vs Q E hr h => ?_)
  · obtain ⟨h, s, n, rfl, _⟩ := h
    rfl
  · obtain ⟨h, s, n, rfl, A, an⟩ := h
    obtain ⟨md, ms, dv, ls, A1⟩ := A.ex
    obtain ⟨dx, ho⟩ := A1.obj
    refine ⟨_, (pss_cons (ps_if (pt_not (pt_val (pe_def D_is_some_units (hr.mono (by decide)) (pa_cons (pv 1) pa_nil)))) (pss_one (ps_ret (pe_lst (pa_cons (pe_num T.c_OUT_OF_RANGE) pa_nil)))) pss_nil)
      (pss_cons (ps_if (pt_cmp (pc_isN (pe_f (pv 0) rfl))) (pss_one (ps_ret (pe_lst (pa_cons (pe_num T.c_NO_EVENT) pa_nil)))) pss_nil)
      (pss_cons (ps_set (i := 2) sc_lose_units.nd rfl (Or.inl rfl) (pe_op op_add (pe_f (pv 0) rfl) (pv 1)))
      (pss_cons (ps_if (pt_cmpR op_gt (pv 2) (pe_num T.c_MOST_LOSS) (nomark _)) (pss_one (ps_ret (pe_lst (pa_cons (pe_num T.c_LOSS_OUT_OF_RANGE) pa_nil)))) pss_nil)
      (pss_cons (ps_set (i := 3) sc_lose_units.nd rfl (Or.inl rfl) (pe_op op_sub (pe_def D_covered_at (hr.mono (by decide)) (pa_cons (pv 0) (pa_cons (pv 2) pa_nil))) (pe_def D_covered_at (hr.mono (by decide)) (pa_cons (pv 0) (pa_cons (pe_f (pv 0) rfl) pa_nil)))))
      (pss_cons (ps_fld (pv 0) (pv 2) rfl)
      (pss_one (ps_ret (pe_lst (pa_cons (pv 3) (pa_cons (pe_def D_uncovered_at (hr.mono (by decide)) (pa_cons (pv 0) (pa_cons (pv 2) pa_nil))) pa_nil))))))))))), ?_⟩
    refine ⟨_, rfl, n, rfl, _, rfl, ?_⟩
    cases hb : Vbchah.within n 1 Vbchah.LOSS with
    | false =>
      have e : Vbchah.step s (.lose n) = (s, [-1]) := if_pos hb
      rw [e] at an
      exact ifT rfl ⟨len1, fun p hp => an.view A (Same.refl _) hp rfl⟩
    | true =>
      have good : ∀ {x : VSt × List Int}, Vbchah.opened s (fun d m => if Vbchah.LOSS < m + n.toNat then (s, [-6]) else ({ s with event := some (d, m + n.toNat) }, Vbchah.ints [min (m + n.toNat) (Vbchah.whole s d) - min m (Vbchah.whole s d), m + n.toNat - Vbchah.whole s d])) = x → Vbchah.step s (.lose n) = x :=
        fun e => (if_neg (by rw [hb]; exact Bool.noConfusion)).trans e
      refine ifF rfl ⟨_, rfl, h, CH, dx, _, _, rfl, ho, O.cl, O.nD, hF_def _ _ _ _, _, rfl, ?_⟩
      cases he : s.event with
      | none =>
        rw [good (opened_none he)] at an
        exact ifT (decide_eq_true (A1.ev0 he)) ⟨len1, fun p hp => an.view A (Same.refl _) hp rfl⟩
      | some ev =>
        obtain ⟨d, m⟩ := ev
        rw [good (opened_some he)] at an
        obtain ⟨els, q, hq, ekd, edv⟩ := A1.ev1 d m he
        obtain ⟨n', en, en2, hn1, hn⟩ := key_nat (by decide) hb
        rw [en2] at an
        subst en
        have A0 := A.at_ he
        have hm : m ≤ Vbchah.LOSS := (A.wf.ev _ he).2
        unfold Vbchah.LOSS at hn hm
        refine ifF (decide_eq_false (by rw [edv]; exact fun z => (nomatch z))) ⟨_, rfl, h, CH, dx, _, _, rfl, ho, O.cl, O.nLo, hF_loss _ _ _ _, _, rfl, _, _, rfl, rfl, ?_⟩
        have e1 : ls + ((n' : Nat) : Int) = ((m + n' : Nat) : Int) := by omega
        try dsimp only
        rw [e1]
        refine ⟨_, rfl, _, _, rfl, rfl, _, rfl, ite2 (fun z => ?_) fun z => ?_⟩
        · have z := of_decide_eq_true z
          rw [if_pos (by unfold Vbchah.LOSS; omega)] at an
          exact ⟨len1, fun p hp => an.view A (Same.refl _) hp rfl⟩
        · have z : ¬ (1000000000000000 : Int) < ((m + n' : Nat) : Int) := fun y => z (decide_eq_true y)
          rw [if_neg (by unfold Vbchah.LOSS; omega)] at an
          refine ⟨_, rfl, _, rfl, h, s, d, m, m + n', rfl, A0, fun H1 s1 => ?_⟩
          obtain ⟨dx1, fs1, ho1, hl1⟩ := (A0.same s1).lossAt
          refine ⟨_, rfl, _, rfl, h, CH, dx1, _, _, rfl, ho1, O.cl, O.nLo, hl1, h, s, d, m, m, rfl, A0.same s1, fun H2 s2 => ⟨_, _, rfl, rfl, ?_⟩⟩
          have A2 := (A0.same s1).same s2
          obtain ⟨dx2, fs2, ho2, hf2, next⟩ := A2.setLoss (m + n') (by unfold Vbchah.LOSS; omega)
          refine ⟨_, rfl, _, rfl, h, CH, dx2, _, rfl, ho2, O.cl, O.nLo, hf2, ?_⟩
          have A3 := next _ upd_same SameBut.upd
          have s12 := s1.trans s2
          refine ⟨_, rfl, _, rfl, _, rfl, h, _, d, m + n', m + n', rfl, A3.at_ rfl, fun H4 s4 => ⟨len2, fun p hp => an.make (((same_keepL s12).trans (KeepL.upd ho2 rfl)).trans (same_keepL s4)) (A3.same s4) (fun p hp => s12.free (none_upd (s4.free hp))) hp ?_⟩⟩
          have e3 : Vbchah.whole { s with event := some (d, m + n') } d = Vbchah.whole s d := rfl
          have e4 : ((min (m + n') (Vbchah.whole s d) : Nat) : Int) - ((min m (Vbchah.whole s d) : Nat) : Int) = ((min (m + n') (Vbchah.whole s d) - min m (Vbchah.whole s d) : Nat) : Int) := by omega
          try dsimp only
          rw [e3, e4]
          rfl
def spRecoverU (CH CM : Addr) : Sp := fun vs H Q _ => ∃ (h : Addr) (s : VSt) (n : Int), vs = [.ref h, .int n] ∧ HSt CH CM H h s ∧ Ans CH CM H h (Vbchah.step s (.recover n)) Q
abbrev s_recover_units : Stmt := top 77
theorem sc_recover_units : FnScope ["house", "amount", "loss", "uncovered_less", "borne_less"] ["house", "amount"] (defScope s_recover_units) := ⟨rfl, rfl, rfl, by decide +kernel, rfl, by decide +kernel, by decide +kernel⟩
theorem ok_recover_units {f : Addr} {fd : FuncData} (F : Fun K "recover_units" "recover_units" s_recover_units f fd) (O : TH K CH) (T : Tn mg) (D_is_some_units : Def P w K mg base "is_some_units" 1 ["amount"] (spIn 1 Vbchah.LOSS)) (D_covered_at : Def P w K mg base "covered_at" 6 ["house", "loss"] (spCovered CH CM)) (D_uncovered_at : Def P w K mg base "uncovered_at" 7 ["house", "loss"] (spUncovered CH CM)) : FnOk P w K mg base CX0 8 f fd ["house", "amount"] (spRecoverU CH CM) := by
  refine F.ok sc_recover_units (fun vs H Q E h => ?_) (fun cdv A outer st H vs Q E hr h => ?_)
  · obtain ⟨h, s, n, rfl, _⟩ := h
    rfl
  · obtain ⟨h, s, n, rfl, A, an⟩ := h
    obtain ⟨md, ms, dv, ls, A1⟩ := A.ex
    obtain ⟨dx, ho⟩ := A1.obj
    refine ⟨_, (pss_cons (ps_if (pt_not (pt_val (pe_def D_is_some_units (hr.mono (by decide)) (pa_cons (pv 1) pa_nil)))) (pss_one (ps_ret (pe_lst (pa_cons (pe_num T.c_OUT_OF_RANGE) pa_nil)))) pss_nil)
      (pss_cons (ps_if (pt_cmp (pc_isN (pe_f (pv 0) rfl))) (pss_one (ps_ret (pe_lst (pa_cons (pe_num T.c_NO_EVENT) pa_nil)))) pss_nil)
      (pss_cons (ps_set (i := 2) sc_recover_units.nd rfl (Or.inl rfl) (pe_op op_sub (pe_f (pv 0) rfl) (pv 1)))
      (pss_cons (ps_if (pt_cmpR op_lt (pv 2) pe_int (nomark _)) (pss_one (ps_ret (pe_lst (pa_cons (pe_num T.c_LOSS_OUT_OF_RANGE) pa_nil)))) pss_nil)
      (pss_cons (ps_set (i := 3) sc_recover_units.nd rfl (Or.inl rfl) (pe_op op_sub (pe_def D_uncovered_at (hr.mono (by decide)) (pa_cons (pv 0) (pa_cons (pe_f (pv 0) rfl) pa_nil))) (pe_def D_uncovered_at (hr.mono (by decide)) (pa_cons (pv 0) (pa_cons (pv 2) pa_nil)))))
      (pss_cons (ps_set (i := 4) sc_recover_units.nd rfl (Or.inl rfl) (pe_op op_sub (pe_def D_covered_at (hr.mono (by decide)) (pa_cons (pv 0) (pa_cons (pe_f (pv 0) rfl) pa_nil))) (pe_def D_covered_at (hr.mono (by decide)) (pa_cons (pv 0) (pa_cons (pv 2) pa_nil)))))
      (pss_cons (ps_fld (pv 0) (pv 2) rfl)
      (pss_one (ps_ret (pe_lst (pa_cons (pv 3) (pa_cons (pv 4) pa_nil)))))))))))), ?_⟩
    refine ⟨_, rfl, n, rfl, _, rfl, ?_⟩
    cases hb : Vbchah.within n 1 Vbchah.LOSS with
    | false =>
      have e : Vbchah.step s (.recover n) = (s, [-1]) := if_pos hb
      rw [e] at an
      exact ifT rfl ⟨len1, fun p hp => an.view A (Same.refl _) hp rfl⟩
    | true =>
      have good : ∀ {x : VSt × List Int}, Vbchah.opened s (fun d m => if m < n.toNat then (s, [-6]) else ({ s with event := some (d, m - n.toNat) }, Vbchah.ints [(m - Vbchah.whole s d) - (m - n.toNat - Vbchah.whole s d), min m (Vbchah.whole s d) - min (m - n.toNat) (Vbchah.whole s d)])) = x → Vbchah.step s (.recover n) = x :=
        fun e => (if_neg (by rw [hb]; exact Bool.noConfusion)).trans e
      refine ifF rfl ⟨_, rfl, h, CH, dx, _, _, rfl, ho, O.cl, O.nD, hF_def _ _ _ _, _, rfl, ?_⟩
      cases he : s.event with
      | none =>
        rw [good (opened_none he)] at an
        exact ifT (decide_eq_true (A1.ev0 he)) ⟨len1, fun p hp => an.view A (Same.refl _) hp rfl⟩
      | some ev =>
        obtain ⟨d, m⟩ := ev
        rw [good (opened_some he)] at an
        obtain ⟨els, q, hq, ekd, edv⟩ := A1.ev1 d m he
        obtain ⟨n', en, en2, hn1, hn⟩ := key_nat (by decide) hb
        rw [en2] at an
        subst en
        have A0 := A.at_ he
        have hm : m ≤ Vbchah.LOSS := (A.wf.ev _ he).2
        unfold Vbchah.LOSS at hn hm
        refine ifF (decide_eq_false (by rw [edv]; exact fun z => (nomatch z))) ⟨_, rfl, h, CH, dx, _, _, rfl, ho, O.cl, O.nLo, hF_loss _ _ _ _, _, rfl, _, _, rfl, rfl, ?_⟩
        refine ⟨_, rfl, _, _, rfl, rfl, _, rfl, ite2 (fun z => ?_) fun z => ?_⟩
        · have z := of_decide_eq_true z
          rw [if_pos (by omega)] at an
          exact ⟨len1, fun p hp => an.view A (Same.refl _) hp rfl⟩
        · have z : ¬ ls - ((n' : Nat) : Int) < 0 := fun y => z (decide_eq_true y)
          rw [if_neg (by omega)] at an
          have e1 : ls - ((n' : Nat) : Int) = ((m - n' : Nat) : Int) := by omega
          try dsimp only
          rw [e1]
          refine ⟨_, rfl, _, rfl, h, CH, dx, _, _, rfl, ho, O.cl, O.nLo, hF_loss _ _ _ _, h, s, d, m, m, by rw [els]; rfl, A0, fun H1 s1 => ⟨_, rfl, _, rfl, h, s, d, m, m - n', rfl, A0.same s1, fun H2 s2 => ⟨_, _, rfl, rfl, ?_⟩⟩⟩
          have s12 := s1.trans s2
          have A2 := A0.same s12
          obtain ⟨dx2, fs2, ho2, hl2⟩ := A2.lossAt
          refine ⟨_, rfl, _, rfl, h, CH, dx2, _, _, rfl, ho2, O.cl, O.nLo, hl2, h, s, d, m, m, rfl, A2, fun H3 s3 => ⟨_, rfl, _, rfl, h, s, d, m, m - n', rfl, A2.same s3, fun H4 s4 => ⟨_, _, rfl, rfl, ?_⟩⟩⟩
          have A4 := (A2.same s3).same s4
          obtain ⟨dx4, fs4, ho4, hf4, next⟩ := A4.setLoss (m - n') (by unfold Vbchah.LOSS; omega)
          have A5 := next _ upd_same SameBut.upd
          have s14 := (s12.trans s3).trans s4
          refine ⟨_, rfl, _, rfl, h, CH, dx4, _, rfl, ho4, O.cl, O.nLo, hf4, _, rfl, _, rfl, len2, fun p hp => an.make ((same_keepL s14).trans (KeepL.upd ho4 rfl)) A5 (fun p hp => s14.free (none_upd hp)) hp ?_⟩
          have e3 : ((m - Vbchah.whole s d : Nat) : Int) - ((m - n' - Vbchah.whole s d : Nat) : Int) = ((m - Vbchah.whole s d - (m - n' - Vbchah.whole s d) : Nat) : Int) := by omega
          have e4 : ((min m (Vbchah.whole s d) : Nat) : Int) - ((min (m - n') (Vbchah.whole s d) : Nat) : Int) = ((min m (Vbchah.whole s d) - min (m - n') (Vbchah.whole s d) : Nat) : Int) := by omega
          try dsimp only
          rw [e3, e4]
          rfl
end
end U
end
section
set_option linter.all false
set_option Elab.async false
set_option linter.all false
set_option maxRecDepth 100000
set_option maxHeartbeats 2000000
namespace U
open PySem PySem.Spec PyProof.Rows L2 L3 Lb
theorem share_single {key c a : Nat} (hc : c < 2 ^ 64) (ha : a ≤ c) : Vbchah.shareOf [⟨key, 1, c⟩] a ⟨key, 1, c⟩ = a := by
  have F : Fine [(⟨key, 1, c⟩ : VSlot)] := ⟨List.pairwise_singleton .., fun s hs => by rw [List.mem_singleton.mp hs]; exact hc⟩
  have := share_sum (l := [(⟨key, 1, c⟩ : VSlot)]) (a := a) F (by show a ≤ c + 0; omega)
  have e : Vbchah.sum (Vbchah.shares [(⟨key, 1, c⟩ : VSlot)] a) = Vbchah.shareOf [⟨key, 1, c⟩] a ⟨key, 1, c⟩ + 0 := rfl
  omega
theorem part_first {s : VSt} (W : Wf s) (d n : Nat) : Vbchah.partOf s d n 3 0 = Vbchah.bears s d n 3 := by
  have hc := W.first
  unfold Vbchah.MONEY at hc
  refine share_single (key := 0) (c := s.first) (by omega) ?_
  have := bears_le s d n 3
  have e : Vbchah.room (Vbchah.slots s d 3) = s.first + 0 := rfl
  omega
theorem part_last {s : VSt} (W : Wf s) (d n : Nat) : Vbchah.partOf s d n 7 0 = Vbchah.bears s d n 7 := by
  have hc := W.last
  unfold Vbchah.MONEY at hc
  refine share_single (key := 0) (c := s.last) (by omega) ?_
  have := bears_le s d n 7
  have e : Vbchah.room (Vbchah.slots s d 7) = s.last + 0 := rfl
  omega
def settled (s : VSt) (d n : Nat) : VSt := { s with first := s.first - Vbchah.bears s d n 3, last := s.last - Vbchah.bears s d n 7, called := s.called + Vbchah.bears s d n 5 }
def paidBut (s : VSt) (d n : Nat) (m : VMem) : VMem := if m.key = d then m else Vbchah.paid s d n m
theorem mems_one {CH CM : Addr} {H : Hp} {h : Addr} {s : VSt} {md : Addr} {ms : List (Addr × VMem)} {dv : V} {ls : Int} (A : HouseAt CH CM H h s md ms dv ls) {a b : Addr × VMem} (ha : a ∈ ms) (hb : b ∈ ms) (e : a.1 = b.1) : a.2 = b.2 := by
  obtain ⟨d1, h1⟩ := A.mems a ha
  obtain ⟨d2, h2⟩ := A.mems b hb
  rw [e, h2] at h1
  have := Option.some.inj h1
  injection this with _ _ this
  exact mF_inj this.symm
theorem nodup_of_key {zs : List (Addr × VMem)} (hk : (zs.map fun z => z.2.key).Nodup) (h : ∀ a ∈ zs, ∀ b ∈ zs, a.1 = b.1 → a.2.key = b.2.key) : (zs.map (·.1)).Nodup := by
  rw [List.Nodup, List.pairwise_map] at hk ⊢
  exact hk.imp_of_mem fun ha hb hne e => hne (h _ ha _ hb e)
section
variable {P : Program} {w : World} {K : PySem.W.Frag} {mg : Str → Option Value} {base : Heap} {C CH CM nob cnt : Addr}
abbrev s_settle_members_and_pieces : Stmt := top 79
theorem sc_settle_members_and_pieces : FnScope ["house", "from_first", "from_funds", "called", "from_gains", "from_last", "member"] ["house"] (defScope s_settle_members_and_pieces) := ⟨rfl, rfl, rfl, by decide +kernel, rfl, by decide +kernel, by decide +kernel⟩
def spSettle (CH CM : Addr) : Sp := fun vs H Q _ => ∃ (h : Addr) (s : VSt) (d n : Nat) (md : Addr) (ms : List (Addr × VMem)) (dv : V) (ls : Int), vs = [.ref h] ∧ HouseAt CH CM H h s md ms dv ls ∧ Wf s ∧ s.event = some (d, n) ∧
  ∀ H' dx, KeepL H H' → (∀ p, H' p = none → H p = none) → H' h = some (.ins CH dx (hF md (settled s d n) dv ls)) → H' md = some (.dK (memKV ms)) → (∀ z ∈ ms, MemAt CM H' z.1 (paidBut s d n z.2)) → Q .non H'
theorem slot_mem {s : VSt} {d : Nat} {m : VMem} (hm : m ∈ Vbchah.others s d) (W : Wf s) (k : Nat) (hk : k = 4 ∨ k = 6) : ∃ i, Vbchah.slotOf s d k m.key = some i ∧ i.cap = (if k = 4 then m.fund else m.gain) ∧ i ∈ Vbchah.slots s d k := by
  have F := slots_fine W d k
  rcases hk with rfl | rfl
  · have hi : (⟨m.key, m.weight, m.fund⟩ : VSlot) ∈ Vbchah.slots s d 4 := List.mem_map.mpr ⟨m, hm, rfl⟩
    exact ⟨_, find_key F.rising hi, rfl, hi⟩
  · have hi : (⟨m.key, m.weight, m.gain⟩ : VSlot) ∈ Vbchah.slots s d 6 := List.mem_map.mpr ⟨m, hm, rfl⟩
    exact ⟨_, find_key F.rising hi, rfl, hi⟩
theorem part_le {s : VSt} {d n : Nat} {m : VMem} (hm : m ∈ Vbchah.others s d) (W : Wf s) : Vbchah.partOf s d n 4 m.key ≤ m.fund ∧ Vbchah.partOf s d n 6 m.key ≤ m.gain := by
  constructor
  · obtain ⟨i, h1, h2, h3⟩ := slot_mem hm W 4 (.inl rfl)
    have := share_cap (slots_fine W d 4) (a := Vbchah.bears s d n 4) h3
    unfold Vbchah.partOf
    rw [h1]
    rw [if_pos rfl] at h2
    rw [← h2]
    exact this
  · obtain ⟨i, h1, h2, h3⟩ := slot_mem hm W 6 (.inr rfl)
    have := share_cap (slots_fine W d 6) (a := Vbchah.bears s d n 6) h3
    unfold Vbchah.partOf
    rw [h1]
    rw [if_neg (by decide)] at h2
    rw [← h2]
    exact this
theorem ok_settle {f : Addr} {fd : FuncData} (F : Fun K "settle_members_and_pieces" "settle_members_and_pieces" s_settle_members_and_pieces f fd) (M : TM K CM) (O : TH K CH) (D_borne_at : Def P w K mg base "borne_at" 6 ["house", "k", "loss"] (spBorne CH CM)) (D_shares_at : Def P w K mg base "shares_at" 7 ["house", "k", "loss"] (spSharesAt CH CM)) (D_other_members : Def P w K mg base "other_members" 1 ["house"] (spOthers CH CM)) : FnOk P w K mg base CX0 8 f fd ["house"] (spSettle CH CM) := by
  refine F.ok sc_settle_members_and_pieces (fun vs H Q E h => ?_) (fun cdv A outer st H vs Q E hr h => ?_)
  · obtain ⟨h, s, d, n, md, ms, dv, ls, rfl, _⟩ := h
    rfl
  · obtain ⟨h, s, d, n, md, ms, dv, ls, rfl, A1, W, he, k⟩ := h
    have hu := hu_of hr
    have A0 : HAt CH CM H h s d n := ⟨⟨md, ms, dv, ls, A1⟩, W, he⟩
    obtain ⟨els, q0, hq0, ekd, edv⟩ := A1.ev1 d n he
    have hn := A0.n_lt
    refine ⟨_, (pss_cons (ps_set (i := 1) sc_settle_members_and_pieces.nd rfl (Or.inl rfl) (pe_def D_borne_at (hr.mono (by decide)) (pa_cons (pv 0) (pa_cons pe_int (pa_cons (pe_f (pv 0) rfl) pa_nil)))))
      (pss_cons (ps_set (i := 2) sc_settle_members_and_pieces.nd rfl (Or.inl rfl) (pe_def D_shares_at (hr.mono (by decide)) (pa_cons (pv 0) (pa_cons pe_int (pa_cons (pe_f (pv 0) rfl) pa_nil)))))
      (pss_cons (ps_set (i := 3) sc_settle_members_and_pieces.nd rfl (Or.inl rfl) (pe_def D_borne_at (hr.mono (by decide)) (pa_cons (pv 0) (pa_cons pe_int (pa_cons (pe_f (pv 0) rfl) pa_nil)))))
      (pss_cons (ps_set (i := 4) sc_settle_members_and_pieces.nd rfl (Or.inl rfl) (pe_def D_shares_at (hr.mono (by decide)) (pa_cons (pv 0) (pa_cons pe_int (pa_cons (pe_f (pv 0) rfl) pa_nil)))))
      (pss_cons (ps_set (i := 5) sc_settle_members_and_pieces.nd rfl (Or.inl rfl) (pe_def D_borne_at (hr.mono (by decide)) (pa_cons (pv 0) (pa_cons pe_int (pa_cons (pe_f (pv 0) rfl) pa_nil)))))
      (pss_cons (ps_for PassesOwn.never rfl (pi_list (pe_def D_other_members (hr.mono (by decide)) (pa_cons (pv 0) pa_nil))) (pg_name (i := 6) sc_settle_members_and_pieces.nd rfl (Or.inl rfl)) (pss_cons (ps_fldaug (pv 6) (pe_dget hu (pv 2) (pe_f (pv 6) rfl) (fun _ _ => rfl)) in_sub)
      (pss_one (ps_fldaug (pv 6) (pe_dget hu (pv 4) (pe_f (pv 6) rfl) (fun _ _ => rfl)) in_sub))))
      (pss_cons (ps_fldaug (pv 0) (pv 1) in_sub)
      (pss_cons (ps_fldaug (pv 0) (pv 5) in_sub)
      (pss_one (ps_fldaug (pv 0) (pv 3) in_add)))))))))), ?_⟩
    obtain ⟨dx, ho⟩ := A1.obj
    have hl : (hF md s dv ls).lookup ("loss" : Str) = some (.int (n : Nat)) := by rw [hF_loss, els]
    refine ⟨_, rfl, _, rfl, h, CH, dx, _, _, rfl, ho, O.cl, O.nLo, hl, h, s, d, n, 3, n, rfl, A0, by decide, by decide, fun H1 s1 => ?_⟩
    refine ⟨_, rfl, _, rfl, h, CH, dx, _, _, rfl, s1 _ _ ho, O.cl, O.nLo, hl, h, s, d, n, 4, n, rfl, A0.same s1, by decide, by decide, hn, fun H2 p4 s2 hp4 e4 => ?_⟩
    have s12 := s1.trans s2
    refine ⟨_, rfl, _, rfl, h, CH, dx, _, _, rfl, s12 _ _ ho, O.cl, O.nLo, hl, h, s, d, n, 5, n, rfl, A0.same s12, by decide, by decide, fun H3 s3 => ?_⟩
    have s13 := s12.trans s3
    refine ⟨_, rfl, _, rfl, h, CH, dx, _, _, rfl, s13 _ _ ho, O.cl, O.nLo, hl, h, s, d, n, 6, n, rfl, A0.same s13, by decide, by decide, hn, fun H4 p6 s4 hp6 e6 => ?_⟩
    have s14 := s13.trans s4
    refine ⟨_, rfl, _, rfl, h, CH, dx, _, _, rfl, s14 _ _ ho, O.cl, O.nLo, hl, h, s, d, n, 7, n, rfl, A0.same s14, by decide, by decide, fun H5 s5 => ?_⟩
    have s15 := s14.trans s5
    have e4' := s5 _ _ (s4 _ _ (s3 _ _ e4))
    have e6' := s5 _ _ e6
    refine ⟨_, rfl, h, s, md, ms, dv, ls, d, n, rfl, A1.same s15, W, he, fun H6 lp zs s6 hlp hsub ezs => ?_⟩
    have s16 := s15.trans s6
    have A6 := A1.same s16
    have e4'' := s6 _ _ e4'
    have e6'' := s6 _ _ e6'
    have hzo : ∀ z ∈ zs, z.2 ∈ Vbchah.others s d := fun z hz => by rw [← ezs]; exact List.mem_map.mpr ⟨z, hz, rfl⟩
    have ndz : (zs.map (·.1)).Nodup := by
      have hk : (zs.map fun z => z.2.key).Nodup := by
        have e : (zs.map fun z => z.2.key) = (Vbchah.others s d).map fun m => m.key := by rw [← ezs, List.map_map]; rfl
        try dsimp only
        rw [e]
        exact RisingM.nodup (W.rising.filter _ : RisingM (Vbchah.others s d))
      refine nodup_of_key hk fun a ha b hb e => ?_
      have h1 := mems_one A1 (hsub a ha) (hsub b hb) e
      rw [h1]
    refine ⟨lp, rfl, ⟨_, SqL.of hlp⟩, for_list (K := K) (a := lp) (xs := zs.map fun z => V.ref z.1) (fun i σ H' => ∃ v6 : Option V, σ = [some (.ref h), some (.int (Vbchah.bears s d n 3 : Nat)), some (.ref p4), some (.int (Vbchah.bears s d n 5 : Nat)), some (.ref p6), some (.int (Vbchah.bears s d n 7 : Nat)), v6] ∧
      (∀ b o, H6 b = some o → b ∉ (zs.map (·.1)) → H' b = some o) ∧ (∀ p, H' p = none → H6 p = none) ∧ (∀ z ∈ zs.take i, MemAt CM H' z.1 (Vbchah.paid s d n z.2)) ∧ (∀ z ∈ zs.drop i, MemAt CM H' z.1 z.2))
      ⟨none, rfl, fun b o e _ => e, fun _ e => e, fun z hz => absurd hz (by simp), fun z hz => A6.mems z (hsub z (List.mem_of_mem_drop hz))⟩ (fun i σ H' _ ⟨_, _, kp, _⟩ => SqL.of (kp lp _ hlp (fun m => ?_))) ?_ ?_⟩
    · obtain ⟨z, hz, e⟩ := List.mem_map.mp m
      obtain ⟨dz, ez⟩ := A6.mems z (hsub z hz)
      exact ne_of ez hlp (fun z => (nomatch z)) e
    · rintro i y σ H' hi ⟨v6, rfl, kp, kn, yes, no⟩
      obtain ⟨z, hz, rfl⟩ := map_at hi
      have mz : z ∈ zs := List.mem_of_getElem? hz
      have mdr : z ∈ zs.drop i := by
        rw [List.mem_iff_getElem?]
        exact ⟨0, by rw [List.getElem?_drop, Nat.add_zero]; exact hz⟩
      obtain ⟨dz, ez⟩ := no z mdr
      have ho' := hzo z mz
      obtain ⟨pl4, pl6⟩ := part_le (n := n) ho' W
      obtain ⟨i4, h41, _, _⟩ := slot_mem ho' W 4 (.inl rfl)
      obtain ⟨i6, h61, _, _⟩ := slot_mem ho' W 6 (.inr rfl)
      have nz : ∀ {a : Addr} {o : HO}, H6 a = some o → (∀ C dx fs, o ≠ .ins C dx fs) → a ∉ zs.map (·.1) := fun {a o} ea hne m => by
        obtain ⟨z', hz', e⟩ := List.mem_map.mp m
        obtain ⟨dz', ez'⟩ := A6.mems z' (hsub z' hz')
        rw [e, ea] at ez'
        exact hne _ _ _ (Option.some.inj ez')
      have p4' : H' p4 = some (.dK (shareKV (Vbchah.slots s d 4) (Vbchah.bears s d n 4))) := kp _ _ e4'' (nz e4'' fun _ _ _ z => (nomatch z))
      have p6' : H' p6 = some (.dK (shareKV (Vbchah.slots s d 6) (Vbchah.bears s d n 6))) := kp _ _ e6'' (nz e6'' fun _ _ _ z => (nomatch z))
      have n46 : p6 ≠ z.1 := ne_of p6' ez (fun z => (nomatch z))
      have n4 : p4 ≠ z.1 := ne_of p4' ez (fun z => (nomatch z))
      have v4 : valV (shareKV (Vbchah.slots s d 4) (Vbchah.bears s d n 4)) (Sum.inl (z.2.key : Int)) = some (.int (Vbchah.partOf s d n 4 z.2.key : Nat)) := by rw [part_find, h41]; rfl
      have v6 : valV (shareKV (Vbchah.slots s d 6) (Vbchah.bears s d n 6)) (Sum.inl (z.2.key : Int)) = some (.int (Vbchah.partOf s d n 6 z.2.key : Nat)) := by rw [part_find, h61]; rfl
      refine ⟨_, rfl, z.1, CM, dz, _, _, rfl, ez, M.cl, M.nF, mF_fund _, _, rfl, _, rfl, z.1, CM, dz, _, _, rfl, ez, M.cl, M.nK, mF_key _, p4, _, rfl, dget_of p4' v4, _, _, rfl, rfl, dz, _, ez, (by show 5 < 1000; decide), ?_⟩
      have em1 : putF "fund" (V.int (((z.2.fund : Nat) : Int) - ((Vbchah.partOf s d n 4 z.2.key : Nat) : Int))) (mF z.2) = mF { z.2 with fund := z.2.fund - Vbchah.partOf s d n 4 z.2.key } := by
        have e : ((z.2.fund : Nat) : Int) - ((Vbchah.partOf s d n 4 z.2.key : Nat) : Int) = ((z.2.fund - Vbchah.partOf s d n 4 z.2.key : Nat) : Int) := by omega
        try dsimp only
        rw [e]
        rfl
      try dsimp only
      rw [em1]
      refine ⟨_, rfl, z.1, CM, dz, _, _, rfl, upd_same, M.cl, M.nG, mF_gain _, _, rfl, _, rfl, z.1, CM, dz, _, _, rfl, upd_same, M.cl, M.nK, mF_key _, p6, _, rfl, dget_of (by rw [upd_ne n46]; exact p6') v6, _, _, rfl, rfl, dz, _, upd_same, (by show 5 < 1000; decide), ?_⟩
      have em2 : putF "gain" (V.int (((z.2.gain : Nat) : Int) - ((Vbchah.partOf s d n 6 z.2.key : Nat) : Int))) (mF { z.2 with fund := z.2.fund - Vbchah.partOf s d n 4 z.2.key }) = mF (Vbchah.paid s d n z.2) := by
        have e : ((z.2.gain : Nat) : Int) - ((Vbchah.partOf s d n 6 z.2.key : Nat) : Int) = ((z.2.gain - Vbchah.partOf s d n 6 z.2.key : Nat) : Int) := by omega
        try dsimp only
        rw [e]
        rfl
      have em2' := em2
      refine ⟨_, rfl, fun b o e nb => ?_, fun p hp => kn p (none_upd (none_upd hp)), fun z' hz' => ?_, fun z' hz' => ?_⟩
      · have nb1 : b ≠ z.1 := fun q => nb (List.mem_map.mpr ⟨z, mz, q.symm⟩)
        rw [upd_ne nb1, upd_ne nb1]
        exact kp b o e nb
      · rw [take_snoc hz] at hz'
        rcases List.mem_append.mp hz' with m | m
        · obtain ⟨dz', ez'⟩ := yes z' m
          have nb1 : z'.1 ≠ z.1 := fun q => by
            have hlt := (List.getElem?_eq_some_iff.mp hz).1
            obtain ⟨j, hj⟩ := List.mem_iff_getElem?.mp m
            have hji : j < i := by
              have := (List.getElem?_eq_some_iff.mp hj).1
              rw [List.length_take] at this
              omega
            have hj2 : zs[j]? = some z' := by rw [List.getElem?_take_of_lt hji] at hj; exact hj
            have a1 : (zs.map (·.1))[j]? = some z.1 := by rw [List.getElem?_map, hj2]; exact congrArg some q
            have a2 : (zs.map (·.1))[i]? = some z.1 := by rw [List.getElem?_map, hz]; rfl
            have := nd_ix ndz a1 a2
            omega
          exact ⟨dz', by rw [upd_ne nb1, upd_ne nb1]; exact ez'⟩
        · rw [List.mem_singleton.mp m]
          refine ⟨dz, ?_⟩
          rw [upd_same, ← em2']
      · have mdr' : z' ∈ zs.drop i := by
          rw [List.drop_eq_getElem_cons (List.getElem?_eq_some_iff.mp hz).1]
          exact List.mem_cons_of_mem _ hz'
        obtain ⟨dz', ez'⟩ := no z' mdr'
        have nb1 : z'.1 ≠ z.1 := fun q => by
          obtain ⟨j, hj⟩ := List.mem_iff_getElem?.mp hz'
          rw [List.getElem?_drop] at hj
          have a1 : (zs.map (·.1))[i + 1 + j]? = some z.1 := by rw [List.getElem?_map, hj]; exact congrArg some q
          have a2 : (zs.map (·.1))[i]? = some z.1 := by rw [List.getElem?_map, hz]; rfl
          have := nd_ix ndz a1 a2
          omega
        exact ⟨dz', by rw [upd_ne nb1, upd_ne nb1]; exact ez'⟩
    · rintro σ H' ⟨v6, rfl, kp, kn, yes, no⟩
      rw [List.length_map, List.take_length] at yes
      have nz : ∀ {a : Addr} {o : HO}, H6 a = some o → (∀ C dx fs, o ≠ .ins C dx fs) → a ∉ zs.map (·.1) := fun {a o} ea hne m => by
        obtain ⟨z', hz', e⟩ := List.mem_map.mp m
        obtain ⟨dz', ez'⟩ := A6.mems z' (hsub z' hz')
        rw [e, ea] at ez'
        exact hne _ _ _ (Option.some.inj ez')
      have hnh : h ∉ zs.map (·.1) := fun m => by
        obtain ⟨z', hz', e⟩ := List.mem_map.mp m
        exact A6.ne1 (hsub z' hz') e
      have ho6 : H' h = some (.ins CH dx (hF md s dv ls)) := kp _ _ (s16 _ _ ho) hnh
      have b3 := bears_le s d n 3
      have r3 : Vbchah.room (Vbchah.slots s d 3) = s.first + 0 := rfl
      have b7 := bears_le s d n 7
      have r7 : Vbchah.room (Vbchah.slots s d 7) = s.last + 0 := rfl
      refine ⟨_, rfl, h, CH, dx, _, _, rfl, ho6, O.cl, O.nF, hF_first _ _ _ _, _, rfl, _, _, rfl, rfl, dx, _, ho6, (by show 8 < 1000; decide), ?_⟩
      have ef1 : putF "first" (V.int (((s.first : Nat) : Int) - ((Vbchah.bears s d n 3 : Nat) : Int))) (hF md s dv ls) = hF md { s with first := s.first - Vbchah.bears s d n 3 } dv ls := by
        have e : ((s.first : Nat) : Int) - ((Vbchah.bears s d n 3 : Nat) : Int) = ((s.first - Vbchah.bears s d n 3 : Nat) : Int) := by omega
        try dsimp only
        rw [e]
        rfl
      try dsimp only
      rw [ef1]
      refine ⟨_, rfl, h, CH, dx, _, _, rfl, upd_same, O.cl, O.nL, hF_last _ _ _ _, _, rfl, _, _, rfl, rfl, dx, _, upd_same, (by show 8 < 1000; decide), ?_⟩
      have ef2 : putF "last" (V.int (((s.last : Nat) : Int) - ((Vbchah.bears s d n 7 : Nat) : Int))) (hF md { s with first := s.first - Vbchah.bears s d n 3 } dv ls) = hF md { s with first := s.first - Vbchah.bears s d n 3, last := s.last - Vbchah.bears s d n 7 } dv ls := by
        have e : ((s.last : Nat) : Int) - ((Vbchah.bears s d n 7 : Nat) : Int) = ((s.last - Vbchah.bears s d n 7 : Nat) : Int) := by omega
        try dsimp only
        rw [e]
        rfl
      try dsimp only
      rw [ef2]
      refine ⟨_, rfl, h, CH, dx, _, _, rfl, upd_same, O.cl, O.nC, hF_called _ _ _ _, _, rfl, _, _, rfl, rfl, dx, _, upd_same, (by show 8 < 1000; decide), ?_⟩
      have sb : ∀ {o1 o2 o3 : HO}, SameBut h H' (upd (upd (upd H' h o1) h o2) h o3) := fun {o1 o2 o3} b o e nb => by rw [upd_ne nb, upd_ne nb, upd_ne nb]; exact e
      have ef3 : putF "called" (V.int (((s.called : Nat) : Int) + ((Vbchah.bears s d n 5 : Nat) : Int))) (hF md { s with first := s.first - Vbchah.bears s d n 3, last := s.last - Vbchah.bears s d n 7 } dv ls) = hF md (settled s d n) dv ls := rfl
      refine k _ dx ?_ ?_ (by rw [upd_same]; exact congrArg (fun q => some (HO.ins CH dx q)) ef3) ?_ ?_
      · refine KeepL.trans (H1 := H') (fun b u hu e => kp b _ (s16 _ _ e) (nz (s16 _ _ e) fun _ _ _ => isL_ne hu rfl)) (keepL_but ho6 rfl sb)
      · exact fun p hp => s16.free (kn p (none_upd (none_upd (none_upd hp))))
      · exact sb _ _ (kp md _ A6.dict (nz A6.dict fun _ _ _ z => (nomatch z))) A1.ne2
      · intro z hz
        unfold paidBut
        by_cases hzd : z.2.key = d
        · rw [if_pos hzd]
          obtain ⟨dz, ez⟩ := A6.mems z hz
          have hnot : z.1 ∉ zs.map (·.1) := fun m => by
            obtain ⟨z', hz', e⟩ := List.mem_map.mp m
            have e2 := mems_one A1 (hsub z' hz') hz e
            have h3 := (List.mem_filter.mp (hzo z' hz')).2
            rw [e2, hzd] at h3
            simp at h3
          exact ⟨dz, sb _ _ (kp _ _ ez hnot) (A1.ne1 hz)⟩
        · rw [if_neg hzd]
          have hzo' : z.2 ∈ Vbchah.others s d := List.mem_filter.mpr ⟨A1.mem hz, by simpa using hzd⟩
          rw [← ezs] at hzo'
          obtain ⟨z', hz', e⟩ := List.mem_map.mp hzo'
          obtain ⟨dz, ez⟩ := yes z' hz'
          have ek : z'.1 = z.1 := by
            have knd := A1.keysNd W
            have v1 := valV_mem knd z hz
            have v2 := valV_mem knd z' (hsub z' hz')
            rw [e, v1] at v2
            injection v2 with v2
            injection v2 with v2
            exact v2.symm
          rw [ek, e] at ez
          exact ⟨dz, sb _ _ ez (A1.ne1 hz)⟩
def spCloseE (CH CM : Addr) : Sp := fun vs H Q _ => ∃ (h : Addr) (s : VSt), vs = [.ref h] ∧ HSt CH CM H h s ∧ Ans CH CM H h (Vbchah.step s (.close)) Q
abbrev s_close_event : Stmt := top 78
theorem sc_close_event : FnScope ["house", "defaulter", "uncovered", "margin_left", "fund_left"] ["house"] (defScope s_close_event) := ⟨rfl, rfl, rfl, by decide +kernel, rfl, by decide +kernel, by decide +kernel⟩
theorem drop_mem {ms : List (Addr × VMem)} (d : Nat) : dropK (memKV ms) (Sum.inl (d : Int)) = memKV (ms.filter fun z => z.2.key != d) := by
  unfold dropK memKV
  rw [List.filter_map]
  congr 1
  refine List.filter_congr fun z _ => ?_
  show decide (((Sum.inl (z.2.key : Int)) : Key) ≠ Sum.inl (d : Int)) = (z.2.key != d)
  rw [Bool.eq_iff_iff, decide_eq_true_iff, bne_iff_ne]
  constructor
  · intro h e
    exact h (by rw [e])
  · intro h e
    have := Sum.inl.inj e
    omega
theorem ok_close_event {f : Addr} {fd : FuncData} (F : Fun K "close_event" "close_event" s_close_event f fd) (M : TM K CM) (O : TH K CH) (T : Tn mg) (D_uncovered_at : Def P w K mg base "uncovered_at" 7 ["house", "loss"] (spUncovered CH CM)) (D_borne_at : Def P w K mg base "borne_at" 6 ["house", "k", "loss"] (spBorne CH CM)) (D_settle_members_and_pieces : Def P w K mg base "settle_members_and_pieces" 8 ["house"] (spSettle CH CM)) : FnOk P w K mg base CX0 9 f fd ["house"] (spCloseE CH CM) := by
  refine F.ok sc_close_event (fun vs H Q E h => ?_) (fun cdv A outer st H vs Q E hr h => ?_)
  · obtain ⟨h, s, rfl, _⟩ := h
    rfl
  · obtain ⟨h, s, rfl, A, an⟩ := h
    obtain ⟨md, ms, dv, ls, A1⟩ := A.ex
    obtain ⟨dx, ho⟩ := A1.obj
    refine ⟨_, (pss_cons (ps_if (pt_cmp (pc_isN (pe_f (pv 0) rfl))) (pss_one (ps_ret (pe_lst (pa_cons (pe_num T.c_NO_EVENT) pa_nil)))) pss_nil)
      (pss_cons (ps_set (i := 1) sc_close_event.nd rfl (Or.inl rfl) (pe_f (pv 0) rfl))
      (pss_cons (ps_set (i := 2) sc_close_event.nd rfl (Or.inl rfl) (pe_def D_uncovered_at (hr.mono (by decide)) (pa_cons (pv 0) (pa_cons (pe_f (pv 0) rfl) pa_nil))))
      (pss_cons (ps_set (i := 3) sc_close_event.nd rfl (Or.inl rfl) (pe_op op_sub (pe_f (pv 1) rfl) (pe_def D_borne_at (hr.mono (by decide)) (pa_cons (pv 0) (pa_cons pe_int (pa_cons (pe_f (pv 0) rfl) pa_nil))))))
      (pss_cons (ps_set (i := 4) sc_close_event.nd rfl (Or.inl rfl) (pe_op op_sub (pe_f (pv 1) rfl) (pe_def D_borne_at (hr.mono (by decide)) (pa_cons (pv 0) (pa_cons pe_int (pa_cons (pe_f (pv 0) rfl) pa_nil))))))
      (pss_cons (ps_expr (pe_def D_settle_members_and_pieces (hr.mono (by decide)) (pa_cons (pv 0) pa_nil)))
      (pss_cons (ps_fldaug (pv 0) (pv 2) in_add)
      (pss_cons (ps_expr (pe_dpop1 (pe_f (pv 0) rfl) (pe_f (pv 1) rfl) ⟨rfl, rfl, rfl, rfl⟩))
      (pss_cons (ps_fld (pv 0) pe_non rfl)
      (pss_one (ps_ret (pe_lst (pa_cons (pv 2) (pa_cons (pv 3) (pa_cons (pv 4) pa_nil))))))))))))))), ?_⟩
    refine ⟨_, rfl, h, CH, dx, _, _, rfl, ho, O.cl, O.nD, hF_def _ _ _ _, _, rfl, ?_⟩
    cases he : s.event with
    | none =>
      have e : Vbchah.step s .close = (s, [-7]) := opened_none (g := fun d n => (Vbchah.closed s d n, Vbchah.ints [n - Vbchah.whole s d, Vbchah.room (Vbchah.slots s d 1) - Vbchah.bears s d n 1, Vbchah.room (Vbchah.slots s d 2) - Vbchah.bears s d n 2])) he
      rw [e] at an
      exact ifT (decide_eq_true (A1.ev0 he)) ⟨len1, fun p hp => an.view A (Same.refl _) hp rfl⟩
    | some ev =>
      obtain ⟨d, n⟩ := ev
      have e : Vbchah.step s .close = (Vbchah.closed s d n, Vbchah.ints [n - Vbchah.whole s d, Vbchah.room (Vbchah.slots s d 1) - Vbchah.bears s d n 1, Vbchah.room (Vbchah.slots s d 2) - Vbchah.bears s d n 2]) := opened_some (g := fun d n => (Vbchah.closed s d n, Vbchah.ints [n - Vbchah.whole s d, Vbchah.room (Vbchah.slots s d 1) - Vbchah.bears s d n 1, Vbchah.room (Vbchah.slots s d 2) - Vbchah.bears s d n 2])) he
      rw [e] at an
      obtain ⟨els, q, hq, ekd, edv⟩ := A1.ev1 d n he
      have A0 := A.at_ he
      have W := A.wf
      have hat : Vbchah.memberAt s d = some q.2 := by rw [← ekd]; exact memberAt_of W.rising (A1.mem hq)
      have r1 : Vbchah.room (Vbchah.slots s d 1) = q.2.margin := by
        show Vbchah.room (match Vbchah.memberAt s d with | some m => [⟨d, 1, m.margin⟩] | none => []) = _
        rw [hat]
        rfl
      have r2 : Vbchah.room (Vbchah.slots s d 2) = q.2.fund := by
        show Vbchah.room (match Vbchah.memberAt s d with | some m => [⟨d, 1, m.fund⟩] | none => []) = _
        rw [hat]
        rfl
      have b1 := bears_le s d n 1
      have b2 := bears_le s d n 2
      rw [r1, r2] at an
      rw [r1] at b1
      rw [r2] at b2
      have hl : (hF md s dv ls).lookup ("loss" : Str) = some (.int (n : Nat)) := by rw [hF_loss, els]
      obtain ⟨dq, hqa⟩ := A1.mems q hq
      refine ifF (decide_eq_false (by rw [edv]; exact fun z => (nomatch z))) ⟨_, rfl, h, CH, dx, _, _, rfl, ho, O.cl, O.nD, hF_def _ _ _ _, ?_⟩
      refine ⟨_, rfl, _, rfl, h, CH, dx, _, _, rfl, ho, O.cl, O.nLo, hl, h, s, d, n, n, rfl, A0, fun H1 s1 => ?_⟩
      subst edv
      refine ⟨_, rfl, q.1, CM, dq, _, _, rfl, s1 _ _ hqa, M.cl, M.nMa, mF_margin _, _, rfl, _, rfl, h, CH, dx, _, _, rfl, s1 _ _ ho, O.cl, O.nLo, hl, h, s, d, n, 1, n, rfl, A0.same s1, by decide, by decide, fun H2 s2 => ⟨_, _, rfl, rfl, ?_⟩⟩
      have s12 := s1.trans s2
      refine ⟨_, rfl, q.1, CM, dq, _, _, rfl, s12 _ _ hqa, M.cl, M.nF, mF_fund _, _, rfl, _, rfl, h, CH, dx, _, _, rfl, s12 _ _ ho, O.cl, O.nLo, hl, h, s, d, n, 2, n, rfl, A0.same s12, by decide, by decide, fun H3 s3 => ⟨_, _, rfl, rfl, ?_⟩⟩
      have s13 := s12.trans s3
      have A3 := A1.same s13
      refine ⟨_, rfl, h, s, d, n, md, ms, _, ls, rfl, A3, W, he, fun H4 dx4 kl kn ho4 hd4 hm4 => ?_⟩
      have hmd4 : md ≠ h := A1.ne2
      obtain ⟨dq4, hq4⟩ := hm4 q hq
      have epb : paidBut s d n q.2 = q.2 := by
        unfold paidBut
        rw [if_pos ekd]
      rw [epb] at hq4
      refine ⟨_, rfl, h, CH, dx4, _, _, rfl, ho4, O.cl, O.nU, hF_unpaid _ _ _ _, _, rfl, _, _, rfl, rfl, dx4, _, ho4, (by show 8 < 1000; decide), ?_⟩
      have nqh : q.1 ≠ h := A1.ne1 hq
      have nqm : q.1 ≠ md := A1.ne3 hq
      have hd5 : ∀ {o : HO}, (upd H4 h o) md = some (.dK (memKV ms)) := fun {o} => by rw [upd_ne hmd4]; exact hd4
      have hv : valV (memKV ms) (Sum.inl (d : Int)) = some (.ref q.1) := by
        rw [← ekd]
        exact valV_mem (A1.keysNd W) q hq
      refine ⟨_, rfl, h, CH, dx4, _, _, rfl, upd_same, O.cl, O.nMe, rfl, md, rfl, .inl ⟨_, .inl hd5⟩, _, rfl, q.1, CM, dq4, _, _, rfl, (by rw [upd_ne nqh]; exact hq4), M.cl, M.nK, mF_key _, memKV ms, Sum.inl (d : Int), .ref q.1, hd5, (by rw [ekd]; rfl), hv, ?_⟩
      rw [drop_mem]
      refine ⟨_, rfl, h, CH, dx4, _, rfl, (by rw [upd_ne (fun z => hmd4 z.symm), upd_same]), O.cl, O.nD, (by show 8 < 1000; decide), ?_⟩
      have HA : ∀ {o : HO}, HouseAt CH CM (upd (upd (upd H4 h o) md (.dK (memKV (ms.filter fun z => z.2.key != d)))) h (.ins CH dx4 (hF md (Vbchah.closed s d n) .non ls))) h (Vbchah.closed s d n) md ((ms.filter fun z => z.2.key != d).map fun z => (z.1, Vbchah.paid s d n z.2)) .non ls := fun {o} => by
        refine ⟨⟨dx4, upd_same⟩, ?_, fun z hz => ?_, ?_, ?_, fun _ => rfl, fun d' n' e => (nomatch e)⟩
        · rw [upd_ne hmd4, upd_same]
          unfold memKV
          rw [List.map_map]
          rfl
        · obtain ⟨z', hz', rfl⟩ := List.mem_map.mp hz
          obtain ⟨m1, m2⟩ := List.mem_filter.mp hz'
          obtain ⟨dz, ez⟩ := hm4 z' m1
          have epb : paidBut s d n z'.2 = Vbchah.paid s d n z'.2 := by
            unfold paidBut
            rw [if_neg (bne_iff_ne.mp m2)]
          rw [epb] at ez
          exact ⟨dz, by rw [upd_ne (A1.ne1 m1), upd_ne (A1.ne3 m1), upd_ne (A1.ne1 m1)]; exact ez⟩
        · rw [List.map_map]
          exact A1.nd.sublist (List.Sublist.map _ List.filter_sublist)
        · have h1 : ((ms.filter fun z => z.2.key != d).map fun z => (z.1, Vbchah.paid s d n z.2)).map (·.2) = ((ms.map (·.2)).filter fun m => m.key != d).map (Vbchah.paid s d n) := by
            rw [List.map_map, List.filter_map, List.map_map]
            rfl
          rw [h1]
          exact (A1.perm.filter _).map _
      have sbL : ∀ {o1 o2 : HO}, KeepL H4 (upd (upd (upd H4 h o1) md (.dK (memKV (ms.filter fun z => z.2.key != d)))) h o2) := fun {o1 o2} b u hu e => by
        have n1 : b ≠ h := ne_of e ho4 (isL_ne hu rfl)
        have n2 : b ≠ md := ne_of e hd4 (isL_ne hu rfl)
        rw [upd_ne n1, upd_ne n2, upd_ne n1]
        exact e
      have efin : putF "defaulter" V.non (putF "unpaid" (V.int (((settled s d n).unpaid : Nat) + ((n - Vbchah.whole s d : Nat) : Int))) (hF md (settled s d n) (.ref q.1) ls)) = hF md (Vbchah.closed s d n) .non ls := by
        have e3 : Vbchah.closed s d n = ⟨(Vbchah.others s d).map (Vbchah.paid s d n), s.first - Vbchah.bears s d n 3, s.last - Vbchah.bears s d n 7, s.multiple, s.called + Vbchah.bears s d n 5, s.unpaid + (n - Vbchah.whole s d), none⟩ := by
          unfold Vbchah.closed
          rw [part_first W, part_last W]
        try dsimp only
        rw [e3]
        rfl
      rw [efin]
      refine ⟨_, rfl, _, rfl, _, rfl, len3, fun p hp => an.make (((same_keepL s13).trans kl).trans sbL) ⟨⟨md, _, .non, ls, HA⟩, closed_wf W d n⟩ (fun p hp => s13.free (kn p (none_upd (none_upd (none_upd hp))))) hp ?_⟩
      have e5 : ((q.2.margin : Nat) : Int) - ((Vbchah.bears s d n 1 : Nat) : Int) = ((q.2.margin - Vbchah.bears s d n 1 : Nat) : Int) := by omega
      have e6 : ((q.2.fund : Nat) : Int) - ((Vbchah.bears s d n 2 : Nat) : Int) = ((q.2.fund - Vbchah.bears s d n 2 : Nat) : Int) := by omega
      try dsimp only
      rw [e5, e6]
      rfl
end
end U
end
section
set_option linter.all false
set_option Elab.async false
set_option linter.all false
set_option maxRecDepth 100000
set_option maxHeartbeats 2000000
namespace U
open PySem PySem.Spec PyProof.Rows L2 L3 Lb
open Vbchah (Call)
inductive Args : Int → List Int → Call → Prop
  | member (k m f g w : Int) : Args 0 [k, m, f, g, w] (.member k m f g w)
  | house (a b c : Int) : Args 1 [a, b, c] (.house a b c)
  | change (k w a : Int) : Args 2 [k, w, a] (.change k w a)
  | opens (k : Int) : Args 3 [k] (.open_ k)
  | lose (n : Int) : Args 4 [n] (.lose n)
  | recover (n : Int) : Args 5 [n] (.recover n)
  | close : Args 6 [] .close
  | layer (k : Int) : Args 7 [k] (.layer k)
  | share (k m : Int) : Args 8 [k, m] (.share k m)
  | shares (k : Int) : Args 9 [k] (.shares k)
  | person (k : Int) : Args 10 [k] (.person k)
  | who (u : Int) : Args 11 [u] (.who u)
  | at (n k m : Int) : Args 12 [n, k, m] (.at_ n k m)
  | until (k m g : Int) : Args 13 [k, m, g] (.until_ k m g)
  | next : Args 14 [] .next
  | between (a b k m : Int) : Args 15 [a, b, k, m] (.between a b k m)
  | check (k n : Int) (l : List Int) : Args 16 (k :: n :: (l.length : Int) :: l) (.check k n l)
  | heaps : Args 17 [] .heaps
  | members : Args 18 [] .members
  | fair (k m : Int) : Args 19 [k, m] (.fair k m)
theorem read_args {l : List Int} {c : List (List Int)} {t : List Int} (h : Read l c t) : ∃ p args call, l = p :: (args ++ t) ∧ Args p args call ∧ VbchahNeutral.callOf c = some call := by
  cases h with
  | member k m f g w t => exact ⟨_, _, _, rfl, .member k m f g w, rfl⟩
  | house a b c t => exact ⟨_, _, _, rfl, .house a b c, rfl⟩
  | change k w a t => exact ⟨_, _, _, rfl, .change k w a, rfl⟩
  | opens k t => exact ⟨_, _, _, rfl, .opens k, rfl⟩
  | lose n t => exact ⟨_, _, _, rfl, .lose n, rfl⟩
  | recover n t => exact ⟨_, _, _, rfl, .recover n, rfl⟩
  | close t => exact ⟨_, _, _, rfl, .close, rfl⟩
  | layer k t => exact ⟨_, _, _, rfl, .layer k, rfl⟩
  | share k m t => exact ⟨_, _, _, rfl, .share k m, rfl⟩
  | shares k t => exact ⟨_, _, _, rfl, .shares k, rfl⟩
  | person k t => exact ⟨_, _, _, rfl, .person k, rfl⟩
  | who u t => exact ⟨_, _, _, rfl, .who u, rfl⟩
  | «at» n k m t => exact ⟨_, _, _, rfl, .at n k m, rfl⟩
  | «until» k m g t => exact ⟨_, _, _, rfl, .until k m g, rfl⟩
  | next t => exact ⟨_, _, _, rfl, .next, rfl⟩
  | between a b k m t => exact ⟨_, _, _, rfl, .between a b k m, rfl⟩
  | check k n l t => exact ⟨_, _, _, rfl, .check k n l, rfl⟩
  | heaps t => exact ⟨_, _, _, rfl, .heaps, rfl⟩
  | members t => exact ⟨_, _, _, rfl, .members, rfl⟩
  | fair k m t => exact ⟨_, _, _, rfl, .fair k m, rfl⟩
def cnts : List V := [.int 5, .int 3, .int 3, .int 1, .int 1, .int 1, .int 0, .int 1, .int 2, .int 1, .int 1, .int 1, .int 3, .int 3, .int 0, .int 4, .int 3, .int 0, .int 0, .int 2]
theorem args_count {p : Int} {args : List Int} {call : Call} (h : Args p args call) : ∃ (q n : Nat), p = (q : Int) ∧ cnts[q]? = some (.int (n : Nat)) ∧ ((q ≠ 16 ∧ args.length = n) ∨ (q = 16 ∧ n = 3 ∧ ∃ m : Nat, args[2]? = some (m : Int) ∧ args.length = 3 + m)) := by
  cases h with
  | member => exact ⟨0, 5, rfl, rfl, .inl ⟨by decide, rfl⟩⟩
  | house => exact ⟨1, 3, rfl, rfl, .inl ⟨by decide, rfl⟩⟩
  | change => exact ⟨2, 3, rfl, rfl, .inl ⟨by decide, rfl⟩⟩
  | opens => exact ⟨3, 1, rfl, rfl, .inl ⟨by decide, rfl⟩⟩
  | lose => exact ⟨4, 1, rfl, rfl, .inl ⟨by decide, rfl⟩⟩
  | recover => exact ⟨5, 1, rfl, rfl, .inl ⟨by decide, rfl⟩⟩
  | close => exact ⟨6, 0, rfl, rfl, .inl ⟨by decide, rfl⟩⟩
  | layer => exact ⟨7, 1, rfl, rfl, .inl ⟨by decide, rfl⟩⟩
  | share => exact ⟨8, 2, rfl, rfl, .inl ⟨by decide, rfl⟩⟩
  | shares => exact ⟨9, 1, rfl, rfl, .inl ⟨by decide, rfl⟩⟩
  | person => exact ⟨10, 1, rfl, rfl, .inl ⟨by decide, rfl⟩⟩
  | who => exact ⟨11, 1, rfl, rfl, .inl ⟨by decide, rfl⟩⟩
  | «at» => exact ⟨12, 3, rfl, rfl, .inl ⟨by decide, rfl⟩⟩
  | «until» => exact ⟨13, 3, rfl, rfl, .inl ⟨by decide, rfl⟩⟩
  | next => exact ⟨14, 0, rfl, rfl, .inl ⟨by decide, rfl⟩⟩
  | between => exact ⟨15, 4, rfl, rfl, .inl ⟨by decide, rfl⟩⟩
  | check k n l => exact ⟨16, 3, rfl, rfl, .inr ⟨rfl, rfl, l.length, rfl, by rw [List.length_cons, List.length_cons, List.length_cons]; omega⟩⟩
  | heaps => exact ⟨17, 0, rfl, rfl, .inl ⟨by decide, rfl⟩⟩
  | members => exact ⟨18, 0, rfl, rfl, .inl ⟨by decide, rfl⟩⟩
  | fair => exact ⟨19, 2, rfl, rfl, .inl ⟨by decide, rfl⟩⟩
theorem ints_len (l : List Nat) : (Vbchah.ints l).length = l.length := List.length_map _
theorem opened_len {s : VSt} {f : Nat → Nat → VSt × List Int} (h : ∀ d n, s.event = some (d, n) → (f d n).2.length ≤ 25) : (Vbchah.opened s f).2.length ≤ 25 := by
  unfold Vbchah.opened
  cases e : s.event with
  | none => exact (by decide : 1 ≤ 25)
  | some p => exact h p.1 p.2 e
theorem borne_len {s : VSt} {k key : Int} {f : Nat → Nat → VSlot → VSt × List Int} (h : ∀ d n i, (f d n i).2.length ≤ 25) : (Vbchah.borneBy s k key f).2.length ≤ 25 := by
  unfold Vbchah.borneBy
  split
  · exact (by decide : 1 ≤ 25)
  · refine opened_len fun d n _ => ?_
    split
    · exact (by decide : 1 ≤ 25)
    · exact h _ _ _
theorem flat2_len (l : List (VSlot × Nat)) : (l.flatMap fun x => [x.1.key, x.2]).length = 2 * l.length := by
  induction l with
  | nil => rfl
  | cons a l ih =>
    rw [List.flatMap_cons, List.length_append, ih, List.length_cons]
    show 2 + 2 * l.length = 2 * (l.length + 1)
    omega
theorem ite_len {c : Prop} [Decidable c] {a b : VSt × List Int} (ha : a.2.length ≤ 25) (hb : b.2.length ≤ 25) : (if c then a else b).2.length ≤ 25 := by
  split
  · exact ha
  · exact hb
theorem step_len {s : VSt} (W : Wf s) (c : Call) : (Vbchah.step s c).2.length ≤ 25 := by
  have one : ∀ z : Int, ([z] : List Int).length ≤ 25 := fun _ => (by decide : 1 ≤ 25)
  cases c with
  | member => exact ite_len (one _) (ite_len (one _) (ite_len (one _) (ite_len (one _) (one _))))
  | house => exact ite_len (one _) (ite_len (one _) (one _))
  | change => exact ite_len (one _) (ite_len (one _) (ite_len (one _) (one _)))
  | open_ => exact ite_len (one _) (ite_len (one _) (ite_len (one _) (one _)))
  | lose n => exact ite_len (one _) (opened_len fun d m _ => ite_len (one _) (by decide : 2 ≤ 25))
  | recover n => exact ite_len (one _) (opened_len fun d m _ => ite_len (one _) (by decide : 2 ≤ 25))
  | close => exact opened_len fun d n _ => (by decide : 3 ≤ 25)
  | layer k => exact ite_len (one _) (opened_len fun d n _ => (by decide : 2 ≤ 25))
  | share k key => exact borne_len fun d n i => (by decide : 1 ≤ 25)
  | shares k =>
    refine ite_len (one _) (opened_len fun d n _ => ?_)
    dsimp only
    rw [ints_len, List.length_cons, flat2_len, List.length_zip]
    have := slots_len W d k.toNat
    have h2 := Nat.min_le_left (Vbchah.slots s d k.toNat).length (Vbchah.shares (Vbchah.slots s d k.toNat) (Vbchah.bears s d n k.toNat)).length
    omega
  | person key => exact ite_len (one _) (opened_len fun d n _ => ite_len (one _) (by decide : 1 ≤ 25))
  | who u => exact ite_len (one _) (opened_len fun d n _ => (by decide : 2 ≤ 25))
  | at_ n k key => exact ite_len (one _) (borne_len fun d n i => (by decide : 1 ≤ 25))
  | until_ k key m => exact ite_len (one _) (borne_len fun d n i => ite_len (one _) (by decide : 1 ≤ 25))
  | next => exact opened_len fun d n _ => (by decide : 2 ≤ 25)
  | between a b k key => exact ite_len (one _) (borne_len fun d n i => (by decide : 1 ≤ 25))
  | check k n l => exact ite_len (one _) (opened_len fun d n _ => one _)
  | heaps => exact (by decide : 7 ≤ 25)
  | members =>
    show (Vbchah.ints (s.members.length :: s.members.map fun m => m.key)).length ≤ 25
    rw [ints_len, List.length_cons, List.length_map]
    have := W.len
    omega
  | fair k key => exact borne_len fun d n i => (by decide : 2 ≤ 25)
theorem big_small {n : Nat} (h : n ≤ 100000) : n < sizeLine := Nat.lt_of_le_of_lt h (by decide)
theorem HSt.keep {CH CM : Addr} {H H' : Hp} {h : Addr} {s : VSt} (A : HSt CH CM H h s) (k : Keep H H') : HSt CH CM H' h s := by
  obtain ⟨md, ms, dv, ls, a⟩ := A.ex
  exact ⟨⟨md, ms, dv, ls, ⟨let ⟨dx, e⟩ := a.obj; ⟨dx, k _ _ e (fun _ z => (nomatch z))⟩, k _ _ a.dict (fun _ z => (nomatch z)), fun q hq => (a.mems q hq).keep k, a.nd, a.perm, a.ev0, a.ev1⟩⟩, A.wf⟩
theorem cut_tail (k n m : Int) (l : List Int) : cutV ((k :: n :: m :: l).map V.int) (some 3) none = l.map V.int := by
  unfold cutV
  have e : HT.sIx ((k :: n :: m :: l).map V.int).length 0 (some 3) = 3 := by
    have := HT.sIx_nat ((k :: n :: m :: l).map V.int).length 0 3
    refine (show HT.sIx ((k :: n :: m :: l).map V.int).length 0 (some ((3 : Nat) : Int)) = 3 from ?_)
    rw [this, List.length_map, List.length_cons, List.length_cons, List.length_cons]
    omega
  rw [e, HT.sIx_none, List.take_of_length_le]
  · rfl
  · rw [List.length_drop]
    omega
theorem cut_mid {ns pre args t : List Int} {i j : Nat} (e : ns.drop i = args ++ t) (hi : i ≤ ns.length) (hj : j + t.length = ns.length) : cutV (ns.map V.int) (some (i : Int)) (some (j : Int)) = args.map V.int := by
  have hlen : ns.length - i = args.length + t.length := by
    have := congrArg List.length e
    rwa [List.length_drop, List.length_append] at this
  unfold cutV
  rw [HT.sIx_nat, HT.sIx_nat, List.length_map, Nat.min_eq_left hi, Nat.min_eq_left (by omega), ← List.map_drop, e, ← List.map_take]
  congr 1
  rw [List.take_append_of_le_length (by omega), List.take_of_length_le (by omega)]
section
variable {P : Program} {w : World} {K : PySem.W.Frag} {mg : Str → Option Value} {base : Heap} {C CH CM nob cnt : Addr}
def spDisp (R : Int → Prop) (K : PySem.W.Frag) (CH CM : Addr) : Sp := fun vs H Q _ => ∃ (h g : Addr) (s : VSt) (p : Int) (args : List Int) (call : Call), vs = [.ref h, .int p, .ref g] ∧ R p ∧ HSt CH CM H h s ∧ SqL K H g (args.map V.int) ∧ args.length < sizeLine ∧ Args p args call ∧ Ans CH CM H h (Vbchah.step s call) Q
def isChange (p : Int) : Prop := p ≤ 6
def isUnits (p : Int) : Prop := 11 ≤ p ∧ p ≤ 16
def isView (p : Int) : Prop := 6 < p ∧ ¬ (11 ≤ p ∧ p ≤ 16)
abbrev s_answer_change : Stmt := top 104
theorem sc_answer_change : FnScope ["house", "number", "given"] ["house", "number", "given"] (defScope s_answer_change) := ⟨rfl, rfl, rfl, by decide +kernel, rfl, by decide +kernel, by decide +kernel⟩
theorem ok_answer_change {f : Addr} {fd : FuncData} (F : Fun K "answer_change" "answer_change" s_answer_change f fd) (D_add_member : Def P w K mg base "add_member" 3 ["house", "key", "margin", "fund", "gain", "weight"] (spAddMember CH CM)) (D_set_house : Def P w K mg base "set_house" 2 ["house", "first", "last", "multiple"] (spSetHouse CH CM)) (D_change_member : Def P w K mg base "change_member" 3 ["house", "key", "what", "amount"] (spChangeM CH CM)) (D_open_event : Def P w K mg base "open_event" 2 ["house", "key"] (spOpenE CH CM)) (D_lose_units : Def P w K mg base "lose_units" 8 ["house", "amount"] (spLoseU CH CM)) (D_recover_units : Def P w K mg base "recover_units" 8 ["house", "amount"] (spRecoverU CH CM)) (D_close_event : Def P w K mg base "close_event" 9 ["house"] (spCloseE CH CM)) : FnOk P w K mg base CX0 10 f fd ["house", "number", "given"] (spDisp isChange K CH CM) := by
  refine F.ok sc_answer_change (fun vs H Q E h => ?_) (fun cdv A outer st H vs Q E hr h => ?_)
  · obtain ⟨h, g, s, p, args, call, rfl, _⟩ := h
    rfl
  · obtain ⟨h, g, s, p, args, call, rfl, R, A, L, hl, ar, an⟩ := h
    refine ⟨_, (pss_cons (ps_if (pt_cmpR op_eq (pv 1) pe_int (nomark _)) (pss_one (ps_ret (pe_def D_add_member (hr.mono (by decide)) (pa_cons (pv 0) (pa_cons (pe_ix ix_list (pv 2) pe_int (fun _ _ => rfl)) (pa_cons (pe_ix ix_list (pv 2) pe_int (fun _ _ => rfl)) (pa_cons (pe_ix ix_list (pv 2) pe_int (fun _ _ => rfl)) (pa_cons (pe_ix ix_list (pv 2) pe_int (fun _ _ => rfl)) (pa_cons (pe_ix ix_list (pv 2) pe_int (fun _ _ => rfl)) pa_nil))))))))) pss_nil)
      (pss_cons (ps_if (pt_cmpR op_eq (pv 1) pe_int (nomark _)) (pss_one (ps_ret (pe_def D_set_house (hr.mono (by decide)) (pa_cons (pv 0) (pa_cons (pe_ix ix_list (pv 2) pe_int (fun _ _ => rfl)) (pa_cons (pe_ix ix_list (pv 2) pe_int (fun _ _ => rfl)) (pa_cons (pe_ix ix_list (pv 2) pe_int (fun _ _ => rfl)) pa_nil))))))) pss_nil)
      (pss_cons (ps_if (pt_cmpR op_eq (pv 1) pe_int (nomark _)) (pss_one (ps_ret (pe_def D_change_member (hr.mono (by decide)) (pa_cons (pv 0) (pa_cons (pe_ix ix_list (pv 2) pe_int (fun _ _ => rfl)) (pa_cons (pe_ix ix_list (pv 2) pe_int (fun _ _ => rfl)) (pa_cons (pe_ix ix_list (pv 2) pe_int (fun _ _ => rfl)) pa_nil))))))) pss_nil)
      (pss_cons (ps_if (pt_cmpR op_eq (pv 1) pe_int (nomark _)) (pss_one (ps_ret (pe_def D_open_event (hr.mono (by decide)) (pa_cons (pv 0) (pa_cons (pe_ix ix_list (pv 2) pe_int (fun _ _ => rfl)) pa_nil))))) pss_nil)
      (pss_cons (ps_if (pt_cmpR op_eq (pv 1) pe_int (nomark _)) (pss_one (ps_ret (pe_def D_lose_units (hr.mono (by decide)) (pa_cons (pv 0) (pa_cons (pe_ix ix_list (pv 2) pe_int (fun _ _ => rfl)) pa_nil))))) pss_nil)
      (pss_cons (ps_if (pt_cmpR op_eq (pv 1) pe_int (nomark _)) (pss_one (ps_ret (pe_def D_recover_units (hr.mono (by decide)) (pa_cons (pv 0) (pa_cons (pe_ix ix_list (pv 2) pe_int (fun _ _ => rfl)) pa_nil))))) pss_nil)
      (pss_one (ps_ret (pe_def D_close_event (hr.mono (by decide)) (pa_cons (pv 0) pa_nil)))))))))), ?_⟩
    unfold isChange at R
    cases ar with
    | member k m f gg w => exact ⟨_, rfl, rfl, _, rfl, ifT (by decide) (⟨_, rfl, _, rfl, g, _, _, _, rfl, rfl, L, at_of (j := 0) rfl rfl, _, rfl, g, _, _, _, rfl, rfl, L, at_of (j := 1) rfl rfl, _, rfl, g, _, _, _, rfl, rfl, L, at_of (j := 2) rfl rfl, _, rfl, g, _, _, _, rfl, rfl, L, at_of (j := 3) rfl rfl, _, rfl, g, _, _, _, rfl, rfl, L, at_of (j := 4) rfl rfl, h, s, k, m, f, gg, w, rfl, A, an⟩)⟩
    | house a b c => exact ⟨_, rfl, rfl, _, rfl, ifF (by decide) (⟨_, rfl, rfl, _, rfl, ifT (by decide) (⟨_, rfl, _, rfl, g, _, _, _, rfl, rfl, L, at_of (j := 0) rfl rfl, _, rfl, g, _, _, _, rfl, rfl, L, at_of (j := 1) rfl rfl, _, rfl, g, _, _, _, rfl, rfl, L, at_of (j := 2) rfl rfl, h, s, a, b, c, rfl, A, an⟩)⟩)⟩
    | change k w a => exact ⟨_, rfl, rfl, _, rfl, ifF (by decide) (⟨_, rfl, rfl, _, rfl, ifF (by decide) (⟨_, rfl, rfl, _, rfl, ifT (by decide) (⟨_, rfl, _, rfl, g, _, _, _, rfl, rfl, L, at_of (j := 0) rfl rfl, _, rfl, g, _, _, _, rfl, rfl, L, at_of (j := 1) rfl rfl, _, rfl, g, _, _, _, rfl, rfl, L, at_of (j := 2) rfl rfl, h, s, k, w, a, rfl, A, an⟩)⟩)⟩)⟩
    | opens k => exact ⟨_, rfl, rfl, _, rfl, ifF (by decide) (⟨_, rfl, rfl, _, rfl, ifF (by decide) (⟨_, rfl, rfl, _, rfl, ifF (by decide) (⟨_, rfl, rfl, _, rfl, ifT (by decide) (⟨_, rfl, _, rfl, g, _, _, _, rfl, rfl, L, at_of (j := 0) rfl rfl, h, s, k, rfl, A, an⟩)⟩)⟩)⟩)⟩
    | lose n => exact ⟨_, rfl, rfl, _, rfl, ifF (by decide) (⟨_, rfl, rfl, _, rfl, ifF (by decide) (⟨_, rfl, rfl, _, rfl, ifF (by decide) (⟨_, rfl, rfl, _, rfl, ifF (by decide) (⟨_, rfl, rfl, _, rfl, ifT (by decide) (⟨_, rfl, _, rfl, g, _, _, _, rfl, rfl, L, at_of (j := 0) rfl rfl, h, s, n, rfl, A, an⟩)⟩)⟩)⟩)⟩)⟩
    | recover n => exact ⟨_, rfl, rfl, _, rfl, ifF (by decide) (⟨_, rfl, rfl, _, rfl, ifF (by decide) (⟨_, rfl, rfl, _, rfl, ifF (by decide) (⟨_, rfl, rfl, _, rfl, ifF (by decide) (⟨_, rfl, rfl, _, rfl, ifF (by decide) (⟨_, rfl, rfl, _, rfl, ifT (by decide) (⟨_, rfl, _, rfl, g, _, _, _, rfl, rfl, L, at_of (j := 0) rfl rfl, h, s, n, rfl, A, an⟩)⟩)⟩)⟩)⟩)⟩)⟩
    | close => exact ⟨_, rfl, rfl, _, rfl, ifF (by decide) (⟨_, rfl, rfl, _, rfl, ifF (by decide) (⟨_, rfl, rfl, _, rfl, ifF (by decide) (⟨_, rfl, rfl, _, rfl, ifF (by decide) (⟨_, rfl, rfl, _, rfl, ifF (by decide) (⟨_, rfl, rfl, _, rfl, ifF (by decide) (⟨_, rfl, h, s, rfl, A, an⟩)⟩)⟩)⟩)⟩)⟩)⟩
    | _ => exact absurd R (by decide)
abbrev s_answer_unit_view : Stmt := top 105
theorem sc_answer_unit_view : FnScope ["house", "number", "given"] ["house", "number", "given"] (defScope s_answer_unit_view) := ⟨rfl, rfl, rfl, by decide +kernel, rfl, by decide +kernel, by decide +kernel⟩
theorem ok_answer_unit_view {f : Addr} {fd : FuncData} (F : Fun K "answer_unit_view" "answer_unit_view" s_answer_unit_view f fd) (D_who_view : Def P w K mg base "who_view" 8 ["house", "unit"] (spWhoV CH CM)) (D_at_view : Def P w K mg base "at_view" 9 ["house", "loss", "k", "key"] (spAtV CH CM)) (D_until_view : Def P w K mg base "until_view" 6 ["house", "k", "key", "share"] (spUntilV CH CM)) (D_next_view : Def P w K mg base "next_view" 8 ["house"] (spNextV CH CM)) (D_between_view : Def P w K mg base "between_view" 9 ["house", "lower", "upper", "k", "key"] (spBetweenV CH CM)) (D_check_view : Def P w K mg base "check_view" 6 ["house", "k", "units", "given"] (spCheckV K CH CM)) : FnOk P w K mg base CX0 10 f fd ["house", "number", "given"] (spDisp isUnits K CH CM) := by
  refine F.ok sc_answer_unit_view (fun vs H Q E h => ?_) (fun cdv A outer st H vs Q E hr h => ?_)
  · obtain ⟨h, g, s, p, args, call, rfl, _⟩ := h
    rfl
  · obtain ⟨h, g, s, p, args, call, rfl, R, A, L, hl, ar, an⟩ := h
    refine ⟨_, (pss_cons (ps_if (pt_cmpR op_eq (pv 1) pe_int (nomark _)) (pss_one (ps_ret (pe_def D_who_view (hr.mono (by decide)) (pa_cons (pv 0) (pa_cons (pe_ix ix_list (pv 2) pe_int (fun _ _ => rfl)) pa_nil))))) pss_nil)
      (pss_cons (ps_if (pt_cmpR op_eq (pv 1) pe_int (nomark _)) (pss_one (ps_ret (pe_def D_at_view (hr.mono (by decide)) (pa_cons (pv 0) (pa_cons (pe_ix ix_list (pv 2) pe_int (fun _ _ => rfl)) (pa_cons (pe_ix ix_list (pv 2) pe_int (fun _ _ => rfl)) (pa_cons (pe_ix ix_list (pv 2) pe_int (fun _ _ => rfl)) pa_nil))))))) pss_nil)
      (pss_cons (ps_if (pt_cmpR op_eq (pv 1) pe_int (nomark _)) (pss_one (ps_ret (pe_def D_until_view (hr.mono (by decide)) (pa_cons (pv 0) (pa_cons (pe_ix ix_list (pv 2) pe_int (fun _ _ => rfl)) (pa_cons (pe_ix ix_list (pv 2) pe_int (fun _ _ => rfl)) (pa_cons (pe_ix ix_list (pv 2) pe_int (fun _ _ => rfl)) pa_nil))))))) pss_nil)
      (pss_cons (ps_if (pt_cmpR op_eq (pv 1) pe_int (nomark _)) (pss_one (ps_ret (pe_def D_next_view (hr.mono (by decide)) (pa_cons (pv 0) pa_nil)))) pss_nil)
      (pss_cons (ps_if (pt_cmpR op_eq (pv 1) pe_int (nomark _)) (pss_one (ps_ret (pe_def D_between_view (hr.mono (by decide)) (pa_cons (pv 0) (pa_cons (pe_ix ix_list (pv 2) pe_int (fun _ _ => rfl)) (pa_cons (pe_ix ix_list (pv 2) pe_int (fun _ _ => rfl)) (pa_cons (pe_ix ix_list (pv 2) pe_int (fun _ _ => rfl)) (pa_cons (pe_ix ix_list (pv 2) pe_int (fun _ _ => rfl)) pa_nil)))))))) pss_nil)
      (pss_one (ps_ret (pe_def D_check_view (hr.mono (by decide)) (pa_cons (pv 0) (pa_cons (pe_ix ix_list (pv 2) pe_int (fun _ _ => rfl)) (pa_cons (pe_ix ix_list (pv 2) pe_int (fun _ _ => rfl)) (pa_cons (pe_slice sl_list (pv 2) (po_some pe_int) po_none) pa_nil)))))))))))), ?_⟩
    unfold isUnits at R
    cases ar with
    | who u => exact ⟨_, rfl, rfl, _, rfl, ifT (by decide) (⟨_, rfl, _, rfl, g, _, _, _, rfl, rfl, L, at_of (j := 0) rfl rfl, h, s, u, rfl, A, an⟩)⟩
    | «at» n k m => exact ⟨_, rfl, rfl, _, rfl, ifF (by decide) (⟨_, rfl, rfl, _, rfl, ifT (by decide) (⟨_, rfl, _, rfl, g, _, _, _, rfl, rfl, L, at_of (j := 0) rfl rfl, _, rfl, g, _, _, _, rfl, rfl, L, at_of (j := 1) rfl rfl, _, rfl, g, _, _, _, rfl, rfl, L, at_of (j := 2) rfl rfl, h, s, n, k, m, rfl, A, an⟩)⟩)⟩
    | «until» k m gg => exact ⟨_, rfl, rfl, _, rfl, ifF (by decide) (⟨_, rfl, rfl, _, rfl, ifF (by decide) (⟨_, rfl, rfl, _, rfl, ifT (by decide) (⟨_, rfl, _, rfl, g, _, _, _, rfl, rfl, L, at_of (j := 0) rfl rfl, _, rfl, g, _, _, _, rfl, rfl, L, at_of (j := 1) rfl rfl, _, rfl, g, _, _, _, rfl, rfl, L, at_of (j := 2) rfl rfl, h, s, k, m, gg, rfl, A, an⟩)⟩)⟩)⟩
    | next => exact ⟨_, rfl, rfl, _, rfl, ifF (by decide) (⟨_, rfl, rfl, _, rfl, ifF (by decide) (⟨_, rfl, rfl, _, rfl, ifF (by decide) (⟨_, rfl, rfl, _, rfl, ifT (by decide) (⟨_, rfl, h, s, rfl, A, an⟩)⟩)⟩)⟩)⟩
    | between a b k m => exact ⟨_, rfl, rfl, _, rfl, ifF (by decide) (⟨_, rfl, rfl, _, rfl, ifF (by decide) (⟨_, rfl, rfl, _, rfl, ifF (by decide) (⟨_, rfl, rfl, _, rfl, ifF (by decide) (⟨_, rfl, rfl, _, rfl, ifT (by decide) (⟨_, rfl, _, rfl, g, _, _, _, rfl, rfl, L, at_of (j := 0) rfl rfl, _, rfl, g, _, _, _, rfl, rfl, L, at_of (j := 1) rfl rfl, _, rfl, g, _, _, _, rfl, rfl, L, at_of (j := 2) rfl rfl, _, rfl, g, _, _, _, rfl, rfl, L, at_of (j := 3) rfl rfl, h, s, a, b, k, m, rfl, A, an⟩)⟩)⟩)⟩)⟩)⟩
    | check k n l =>
      refine ⟨_, rfl, rfl, _, rfl, ifF (by decide) (⟨_, rfl, rfl, _, rfl, ifF (by decide) (⟨_, rfl, rfl, _, rfl, ifF (by decide) (⟨_, rfl, rfl, _, rfl, ifF (by decide) (⟨_, rfl, rfl, _, rfl, ifF (by decide) (⟨_, rfl, _, rfl, g, _, _, _, rfl, rfl, L, at_of (j := 0) rfl rfl, _, rfl, g, _, _, _, rfl, rfl, L, at_of (j := 1) rfl rfl, _, rfl, _, rfl, g, _, rfl, L, fun q hq => ?_⟩)⟩)⟩)⟩)⟩)⟩
      rw [cut_tail]
      refine ⟨h, q, s, k, n, l, rfl, A.same (Same.new hq), SqL.of upd_same, ?_, an.same (Same.new hq)⟩
      rw [List.length_cons, List.length_cons, List.length_cons] at hl
      omega
    | _ => exact absurd R (by decide)
abbrev s_answer_view : Stmt := top 106
theorem sc_answer_view : FnScope ["house", "number", "given"] ["house", "number", "given"] (defScope s_answer_view) := ⟨rfl, rfl, rfl, by decide +kernel, rfl, by decide +kernel, by decide +kernel⟩
theorem ok_answer_view {f : Addr} {fd : FuncData} (F : Fun K "answer_view" "answer_view" s_answer_view f fd) (D_layer_view : Def P w K mg base "layer_view" 7 ["house", "k"] (spLayerV CH CM)) (D_share_view : Def P w K mg base "share_view" 9 ["house", "k", "key"] (spShareV CH CM)) (D_shares_view : Def P w K mg base "shares_view" 8 ["house", "k"] (spSharesV CH CM)) (D_person_view : Def P w K mg base "person_view" 8 ["house", "key"] (spPersonV CH CM)) (D_heaps_view : Def P w K mg base "heaps_view" 1 ["house"] (spHeapsV CH CM)) (D_members_view : Def P w K mg base "members_view" 1 ["house"] (spMembersV CH CM)) (D_fair_view : Def P w K mg base "fair_view" 9 ["house", "k", "key"] (spFairV CH CM)) : FnOk P w K mg base CX0 10 f fd ["house", "number", "given"] (spDisp isView K CH CM) := by
  refine F.ok sc_answer_view (fun vs H Q E h => ?_) (fun cdv A outer st H vs Q E hr h => ?_)
  · obtain ⟨h, g, s, p, args, call, rfl, _⟩ := h
    rfl
  · obtain ⟨h, g, s, p, args, call, rfl, R, A, L, hl, ar, an⟩ := h
    refine ⟨_, (pss_cons (ps_if (pt_cmpR op_eq (pv 1) pe_int (nomark _)) (pss_one (ps_ret (pe_def D_layer_view (hr.mono (by decide)) (pa_cons (pv 0) (pa_cons (pe_ix ix_list (pv 2) pe_int (fun _ _ => rfl)) pa_nil))))) pss_nil)
      (pss_cons (ps_if (pt_cmpR op_eq (pv 1) pe_int (nomark _)) (pss_one (ps_ret (pe_def D_share_view (hr.mono (by decide)) (pa_cons (pv 0) (pa_cons (pe_ix ix_list (pv 2) pe_int (fun _ _ => rfl)) (pa_cons (pe_ix ix_list (pv 2) pe_int (fun _ _ => rfl)) pa_nil)))))) pss_nil)
      (pss_cons (ps_if (pt_cmpR op_eq (pv 1) pe_int (nomark _)) (pss_one (ps_ret (pe_def D_shares_view (hr.mono (by decide)) (pa_cons (pv 0) (pa_cons (pe_ix ix_list (pv 2) pe_int (fun _ _ => rfl)) pa_nil))))) pss_nil)
      (pss_cons (ps_if (pt_cmpR op_eq (pv 1) pe_int (nomark _)) (pss_one (ps_ret (pe_def D_person_view (hr.mono (by decide)) (pa_cons (pv 0) (pa_cons (pe_ix ix_list (pv 2) pe_int (fun _ _ => rfl)) pa_nil))))) pss_nil)
      (pss_cons (ps_if (pt_cmpR op_eq (pv 1) pe_int (nomark _)) (pss_one (ps_ret (pe_def D_heaps_view (hr.mono (by decide)) (pa_cons (pv 0) pa_nil)))) pss_nil)
      (pss_cons (ps_if (pt_cmpR op_eq (pv 1) pe_int (nomark _)) (pss_one (ps_ret (pe_def D_members_view (hr.mono (by decide)) (pa_cons (pv 0) pa_nil)))) pss_nil)
      (pss_one (ps_ret (pe_def D_fair_view (hr.mono (by decide)) (pa_cons (pv 0) (pa_cons (pe_ix ix_list (pv 2) pe_int (fun _ _ => rfl)) (pa_cons (pe_ix ix_list (pv 2) pe_int (fun _ _ => rfl)) pa_nil)))))))))))), ?_⟩
    unfold isView at R
    cases ar with
    | layer k => exact ⟨_, rfl, rfl, _, rfl, ifT (by decide) (⟨_, rfl, _, rfl, g, _, _, _, rfl, rfl, L, at_of (j := 0) rfl rfl, h, s, k, rfl, A, an⟩)⟩
    | share k m => exact ⟨_, rfl, rfl, _, rfl, ifF (by decide) (⟨_, rfl, rfl, _, rfl, ifT (by decide) (⟨_, rfl, _, rfl, g, _, _, _, rfl, rfl, L, at_of (j := 0) rfl rfl, _, rfl, g, _, _, _, rfl, rfl, L, at_of (j := 1) rfl rfl, h, s, k, m, rfl, A, an⟩)⟩)⟩
    | shares k => exact ⟨_, rfl, rfl, _, rfl, ifF (by decide) (⟨_, rfl, rfl, _, rfl, ifF (by decide) (⟨_, rfl, rfl, _, rfl, ifT (by decide) (⟨_, rfl, _, rfl, g, _, _, _, rfl, rfl, L, at_of (j := 0) rfl rfl, h, s, k, rfl, A, an⟩)⟩)⟩)⟩
    | person k => exact ⟨_, rfl, rfl, _, rfl, ifF (by decide) (⟨_, rfl, rfl, _, rfl, ifF (by decide) (⟨_, rfl, rfl, _, rfl, ifF (by decide) (⟨_, rfl, rfl, _, rfl, ifT (by decide) (⟨_, rfl, _, rfl, g, _, _, _, rfl, rfl, L, at_of (j := 0) rfl rfl, h, s, k, rfl, A, an⟩)⟩)⟩)⟩)⟩
    | heaps => exact ⟨_, rfl, rfl, _, rfl, ifF (by decide) (⟨_, rfl, rfl, _, rfl, ifF (by decide) (⟨_, rfl, rfl, _, rfl, ifF (by decide) (⟨_, rfl, rfl, _, rfl, ifF (by decide) (⟨_, rfl, rfl, _, rfl, ifT (by decide) (⟨_, rfl, h, s, rfl, A, an⟩)⟩)⟩)⟩)⟩)⟩
    | members => exact ⟨_, rfl, rfl, _, rfl, ifF (by decide) (⟨_, rfl, rfl, _, rfl, ifF (by decide) (⟨_, rfl, rfl, _, rfl, ifF (by decide) (⟨_, rfl, rfl, _, rfl, ifF (by decide) (⟨_, rfl, rfl, _, rfl, ifF (by decide) (⟨_, rfl, rfl, _, rfl, ifT (by decide) (⟨_, rfl, h, s, rfl, A, an⟩)⟩)⟩)⟩)⟩)⟩)⟩
    | fair k m => exact ⟨_, rfl, rfl, _, rfl, ifF (by decide) (⟨_, rfl, rfl, _, rfl, ifF (by decide) (⟨_, rfl, rfl, _, rfl, ifF (by decide) (⟨_, rfl, rfl, _, rfl, ifF (by decide) (⟨_, rfl, rfl, _, rfl, ifF (by decide) (⟨_, rfl, rfl, _, rfl, ifF (by decide) (⟨_, rfl, _, rfl, g, _, _, _, rfl, rfl, L, at_of (j := 0) rfl rfl, _, rfl, g, _, _, _, rfl, rfl, L, at_of (j := 1) rfl rfl, h, s, k, m, rfl, A, an⟩)⟩)⟩)⟩)⟩)⟩)⟩
    | _ => exact absurd R (by decide)
abbrev s_answer_call : Stmt := top 103
theorem sc_answer_call : FnScope ["house", "number", "given"] ["house", "number", "given"] (defScope s_answer_call) := ⟨rfl, rfl, rfl, by decide +kernel, rfl, by decide +kernel, by decide +kernel⟩
theorem ok_answer_call {f : Addr} {fd : FuncData} (F : Fun K "answer_call" "answer_call" s_answer_call f fd) (T : Tn mg) (D_answer_change : Def P w K mg base "answer_change" 10 ["house", "number", "given"] (spDisp isChange K CH CM)) (D_answer_unit_view : Def P w K mg base "answer_unit_view" 10 ["house", "number", "given"] (spDisp isUnits K CH CM)) (D_answer_view : Def P w K mg base "answer_view" 10 ["house", "number", "given"] (spDisp isView K CH CM)) : FnOk P w K mg base CX0 11 f fd ["house", "number", "given"] (spDisp (fun _ => True) K CH CM) := by
  refine F.ok sc_answer_call (fun vs H Q E h => ?_) (fun cdv A outer st H vs Q E hr h => ?_)
  · obtain ⟨h, g, s, p, args, call, rfl, _⟩ := h
    rfl
  · obtain ⟨h, g, s, p, args, call, rfl, _, rest⟩ := h
    refine ⟨_, (pss_cons (ps_if (pt_cmpR op_le (pv 1) (pe_num T.c_LAST_CHANGE) (nomark _)) (pss_one (ps_ret (pe_def D_answer_change (hr.mono (by decide)) (pa_cons (pv 0) (pa_cons (pv 1) (pa_cons (pv 2) pa_nil)))))) pss_nil)
      (pss_cons (ps_if (pt_chain op_le op_le (pe_num T.c_FIRST_OF_UNITS) (pv 1) (pe_num T.c_CHECK)) (pss_one (ps_ret (pe_def D_answer_unit_view (hr.mono (by decide)) (pa_cons (pv 0) (pa_cons (pv 1) (pa_cons (pv 2) pa_nil)))))) pss_nil)
      (pss_one (ps_ret (pe_def D_answer_view (hr.mono (by decide)) (pa_cons (pv 0) (pa_cons (pv 1) (pa_cons (pv 2) pa_nil)))))))), ?_⟩
    refine ⟨_, rfl, _, _, rfl, rfl, _, rfl, ite2 (fun z => ?_) fun z => ?_⟩
    · exact ⟨_, rfl, _, rfl, _, rfl, h, g, s, p, args, call, rfl, (show p ≤ 6 from of_decide_eq_true z), rest⟩
    · have z : ¬ p ≤ 6 := fun y => z (decide_eq_true y)
      refine ⟨_, rfl, _, _, rfl, rfl, _, rfl, ite2 (fun z1 => ⟨_, _, rfl, rfl, _, rfl, ite2 (fun z2 => ?_) fun z2 => ?_⟩) fun z1 => ⟨_, rfl, ifF rfl ?_⟩⟩
      · exact ⟨_, rfl, _, rfl, _, rfl, h, g, s, p, args, call, rfl, ⟨of_decide_eq_true z1, of_decide_eq_true z2⟩, rest⟩
      · exact ⟨_, rfl, _, rfl, _, rfl, h, g, s, p, args, call, rfl, ⟨by omega, fun y => z2 (decide_eq_true y.2)⟩, rest⟩
      · exact ⟨_, rfl, _, rfl, _, rfl, h, g, s, p, args, call, rfl, ⟨by omega, fun y => z1 (decide_eq_true y.1)⟩, rest⟩
abbrev s_end_of_call : Stmt := top 102
theorem sc_end_of_call : FnScope ["calls", "place", "end"] ["calls", "place"] (defScope s_end_of_call) := ⟨rfl, rfl, rfl, by decide +kernel, rfl, by decide +kernel, by decide +kernel⟩
def spEnd (K : PySem.W.Frag) : Sp := fun vs H Q _ => ∃ (a : Addr) (ns : List Int) (i : Nat) (p : Int) (args t : List Int) (call : Call), vs = [.ref a, .int (i : Nat)] ∧ SqL K H a (ns.map V.int) ∧ ns.drop i = p :: (args ++ t) ∧ Args p args call ∧ Q (.int ((i + 1 + args.length : Nat) : Int)) H
theorem ok_end_of_call {f : Addr} {fd : FuncData} (F : Fun K "end_of_call" "end_of_call" s_end_of_call f fd) (T : Tn mg) (G : Tg K mg nob cnt) : FnOk P w K mg base CX0 1 f fd ["calls", "place"] (spEnd K) := by
  refine F.ok sc_end_of_call (fun vs H Q E h => ?_) (fun cdv A outer st H vs Q E hr h => ?_)
  · obtain ⟨a, ns, i, p, args, t, call, rfl, _⟩ := h
    rfl
  · obtain ⟨a, ns, i, p, args, t, call, rfl, L, ed, ar, k⟩ := h
    refine ⟨_, (pss_cons (ps_set (i := 2) sc_end_of_call.nd rfl (Or.inl rfl) (pe_op op_add (pe_op op_add (pv 1) pe_int) (pe_ix ix_tup (pe_tupg G.c_ARGUMENT_COUNTS) (pe_ix ix_list (pv 0) (pv 1) (fun _ _ => rfl)) (fun _ _ => rfl))))
      (pss_cons (ps_if (pt_cmpR op_eq (pe_ix ix_list (pv 0) (pv 1) (fun _ _ => rfl)) (pe_num T.c_CHECK) (nomark _)) (pss_one (ps_ret (pe_op op_add (pv 2) (pe_ix ix_list (pv 0) (pe_op op_sub (pv 2) pe_int) (fun _ _ => rfl))))) pss_nil)
      (pss_one (ps_ret (pv 2))))), ?_⟩
    obtain ⟨q, n, ep, hc, cs⟩ := args_count ar
    subst ep
    have h0 : ns[i]? = some (q : Int) := by
      have : (ns.drop i)[0]? = some (q : Int) := by rw [ed]; rfl
      rwa [List.getElem?_drop, Nat.add_zero] at this
    have h0' : (ns.map V.int)[i]? = some (.int (q : Int)) := by rw [List.getElem?_map, h0]; rfl
    refine ⟨_, rfl, _, _, rfl, rfl, _, rfl, _, rfl, a, _, _, _, rfl, rfl, L, atI_nat h0', cnt, _, _, _, rfl, rfl, G.cnt H, atI_nat hc, _, _, rfl, rfl, ?_⟩
    refine ⟨_, rfl, _, rfl, a, _, _, _, rfl, rfl, L, atI_nat h0', rfl, _, rfl, ?_⟩
    rw [dec_nat (b := 16) (c := 16) rfl]
    rcases cs with ⟨hq, hl⟩ | ⟨hq, hn, m, hm, hl⟩
    · refine ifF (decide_eq_false hq) ⟨_, rfl, ?_⟩
      have e : ((i : Nat) : Int) + 1 + ((n : Nat) : Int) = ((i + 1 + args.length : Nat) : Int) := by omega
      try dsimp only
      rw [e]
      exact k
    · have h3 : ns[i + 3]? = some (m : Int) := by
        have : (ns.drop i)[3]? = some (m : Int) := by
          rw [ed, List.getElem?_cons_succ, List.getElem?_append_left (by omega)]
          exact hm
        rwa [List.getElem?_drop] at this
      have h3' : (ns.map V.int)[i + 3]? = some (.int (m : Int)) := by rw [List.getElem?_map, h3]; rfl
      have e3 : ((i : Nat) : Int) + 1 + ((n : Nat) : Int) - 1 = ((i + 3 : Nat) : Int) := by omega
      refine ifT (decide_eq_true hq) ⟨_, rfl, _, rfl, _, rfl, _, _, rfl, rfl, a, _, _, _, rfl, rfl, L, (by rw [e3]; exact atI_nat h3'), _, _, rfl, rfl, ?_⟩
      have e : ((i : Nat) : Int) + 1 + ((n : Nat) : Int) + ((m : Nat) : Int) = ((i + 1 + args.length : Nat) : Int) := by omega
      try dsimp only
      rw [e]
      exact k
abbrev s_answers : Stmt := top 101
theorem sc_answers : FnScope ["calls", "house", "answered", "place", "end", "numbers"] ["calls"] (defScope s_answers) := ⟨rfl, rfl, rfl, by decide +kernel, rfl, by decide +kernel, by decide +kernel⟩
def spAnswers (K : PySem.W.Frag) : Sp := fun vs H Q _ => ∃ (a : Addr) (ns : List Int) (cs : List (List (List Int))), vs = [.ref a] ∧ SqL K H a (ns.map V.int) ∧ ns.length ≤ 16000 ∧ Line ns cs ∧ cs.length ≤ 400 ∧
  ∀ (H' : Hp) (p : Addr), H' p = some (.lst ((PyFlat.told (PyFlat.played VbchahNeutral.step VbchahNeutral.start cs)).map V.int)) → Q (.ref p) H'
theorem ok_answers {f : Addr} {fd : FuncData} (F : Fun K "answers" "answers" s_answers f fd) (B : Bt mg) (N_House : New P w K mg base "House" CH 1 ["self"] (spInitH CH CM)) (D_end_of_call : Def P w K mg base "end_of_call" 1 ["calls", "place"] (spEnd K)) (D_answer_call : Def P w K mg base "answer_call" 11 ["house", "number", "given"] (spDisp (fun _ => True) K CH CM)) : FnOk P w K mg base CX0 12 f fd ["calls"] (spAnswers K) := by
  refine F.ok sc_answers (fun vs H Q E h => ?_) (fun cdv A outer st H vs Q E hr h => ?_)
  · obtain ⟨a, ns, cs, rfl, _⟩ := h
    rfl
  · obtain ⟨a, ns, cs, rfl, L, hns, line, hcs, k⟩ := h
    refine ⟨_, (pss_cons (ps_set (i := 1) sc_answers.nd rfl (Or.inl rfl) (pe_new0 N_House (hr.mono (by decide))))
      (pss_cons (ps_set (i := 2) sc_answers.nd rfl (Or.inl rfl) (pe_lst pa_nil))
      (pss_cons (ps_set (i := 3) sc_answers.nd rfl (Or.inl rfl) pe_int)
      (pss_cons (ps_while PassesOwn.never (pt_cmpR op_lt (pv 3) (pe_callB call_len_seq rfl B.b_len PySem.boot_len (pa_cons (pv 0) pa_nil)) (nomark _)) (pss_cons (ps_set (i := 4) sc_answers.nd rfl (Or.inl rfl) (pe_def D_end_of_call (hr.mono (by decide)) (pa_cons (pv 0) (pa_cons (pv 3) pa_nil))))
      (pss_cons (ps_set (i := 5) sc_answers.nd rfl (Or.inl rfl) (pe_def D_answer_call (hr.mono (by decide)) (pa_cons (pv 1) (pa_cons (pe_ix ix_list (pv 0) (pv 3) (fun _ _ => rfl)) (pa_cons (pe_slice sl_list (pv 0) (po_some (pe_op op_add (pv 3) pe_int)) (po_some (pv 4))) pa_nil)))))
      (pss_cons (ps_expr (pe_bm PySem.F.plainAttrs_list PySem.F.slot_list_append PySem.F.type_list_append mt_append (pv 2) (pa_cons (pe_callB call_len_seq rfl B.b_len PySem.boot_len (pa_cons (pv 5) pa_nil)) pa_nil)))
      (pss_cons (ps_expr (pe_bm PySem.F.plainAttrs_list PySem.F.slot_list_extend PySem.F.type_list_extend mt_extend (pv 2) (pa_cons (pv 5) pa_nil)))
      (pss_one (ps_set (i := 3) sc_answers.nd rfl (Or.inl rfl) (pv 4))))))))
      (pss_one (ps_ret (pv 2))))))), ?_⟩
    refine fun x dx nx ndx nex => ⟨x, dx, rfl, upd_same, fun H1 md ho hmd hd kp => ⟨rfl, ?_⟩⟩
    have s1 : Same H H1 := Same.made nx ndx kp
    have A1 : HSt CH CM H1 x Vbchah.start := ⟨⟨md, [], .non, 0, ⟨⟨dx, ho⟩, hd, fun q hq => absurd hq List.not_mem_nil, List.nodup_nil, List.Perm.refl _, fun _ => rfl, fun d n e => (nomatch e)⟩⟩, start_wf⟩
    refine ⟨Nat.zero_le _, fun l hl => ?_⟩
    have s2 : Same H1 (upd H1 l (.lst [])) := Same.new hl
    have hA : a ≠ l ∨ ∀ H2 : Hp, SqL K H2 a (ns.map V.int) := by
      rcases s1.seq L with (h | ⟨o, h⟩) | h
      · exact .inl (ne_of_none h hl)
      · exact .inl (ne_of_none h hl)
      · exact .inr fun _ => .inr h
    refine ⟨fun m σ H' => ∃ (i : Nat) (cs' : List (List (List Int))) (s : VSt) (out : List Int) (v4 v5 : Option V), σ = [some (.ref a), some (.ref x), some (.ref l), some (.int (i : Nat)), v4, v5] ∧ SqL K H' a (ns.map V.int) ∧ HSt CH CM H' x s ∧ H' l = some (.lst (out.map V.int)) ∧ i ≤ ns.length ∧ Line (ns.drop i) cs' ∧
      PyFlat.told (PyFlat.played VbchahNeutral.step VbchahNeutral.start cs) = out ++ PyFlat.told (PyFlat.played VbchahNeutral.step s cs') ∧ out.length + 26 * cs'.length ≤ 26 * 400 ∧ m = cs'.length,
      ⟨_, 0, cs, Vbchah.start, [], none, none, rfl, (s1.trans s2).seq L, A1.same s2, upd_same, Nat.zero_le _, line, rfl, by show 0 + 26 * cs.length ≤ 26 * 400; omega, rfl⟩, ?_⟩
    rintro m σ H' ⟨i, cs', s, out, v4, v5, rfl, L', A', hl', hi, ln, tl, hb, rfl⟩
    refine ⟨_, rfl, _, rfl, a, _, rfl, .inl L', _, _, rfl, rfl, _, rfl, ?_⟩
    rw [List.length_map]
    refine ite2 (fun z => ?_) fun z => ?_
    · have z := of_decide_eq_true z
      generalize hdr : ns.drop i = rest at ln
      cases ln with
      | nil =>
        have := congrArg List.length hdr
        rw [List.length_drop] at this
        have : ns.length - i = 0 := this
        omega
      | @cons _ c t cs2 rd ak ln2 =>
        obtain ⟨p, args, call, el, ar, ec⟩ := read_args rd
        rw [el] at hdr
        refine ⟨_, fun _ _ z => z, ?_⟩
        have hlen : ns.length - i = 1 + (args.length + t.length) := by
          have := congrArg List.length hdr
          rw [List.length_drop, List.length_cons, List.length_append] at this
          omega
        have h0 : ns[i]? = some p := by
          have : (ns.drop i)[0]? = some p := by rw [hdr]; rfl
          rwa [List.getElem?_drop, Nat.add_zero] at this
        have h0' : (ns.map V.int)[i]? = some (.int p) := by rw [List.getElem?_map, h0]; rfl
        refine ⟨_, rfl, _, rfl, a, ns, i, p, args, t, call, rfl, L', hdr, ar, ?_⟩
        refine ⟨_, rfl, _, rfl, _, rfl, a, _, _, _, rfl, rfl, L', atI_nat h0', _, rfl, _, rfl, _, _, rfl, rfl, _, rfl, _, rfl, _, rfl, a, _, rfl, L', fun g hg => ?_⟩
        have ecut : cutV (ns.map V.int) (some (((i : Nat) : Int) + 1)) (some ((i + 1 + args.length : Nat) : Int)) = args.map V.int := by
          refine cut_mid (i := i + 1) (pre := []) (t := t) ?_ (by omega) (by omega)
          rw [← List.drop_drop, hdr]
          rfl
        rw [ecut]
        have s3 : Same H' (upd H' g (.lst (args.map V.int))) := Same.new hg
        refine ⟨x, g, s, p, args, call, rfl, trivial, A'.same s3, SqL.of upd_same, big_small (by omega), ar, fun H4 q kl A4 hq hq4 => ?_⟩
        have estep : VbchahNeutral.step s c = Vbchah.step s call := by
          unfold VbchahNeutral.step
          rw [ec]
        have hlen4 := step_len A'.wf call
        rw [← estep] at hq4 A4 hlen4
        have hl4 : H4 l = some (.lst (out.map V.int)) := kl _ _ rfl (s3 _ _ hl')
        have nlq : l ≠ q := fun e => by
          rw [← e, s3 _ _ hl'] at hq
          cases hq
        have b1 : out.length + 26 * (cs2.length + 1) ≤ 26 * 400 := hb
        refine ⟨_, rfl, .inl ⟨rfl, _, SqL.of hl4⟩, _, rfl, q, _, rfl, .inl (SqL.of hq4), l, _, _, rfl, rfl, hl4, (by rw [List.length_map]; exact big_small (by omega)), ?_⟩
        have hq5 : ∀ {o : HO}, (upd H4 l o) q = some (.lst ((VbchahNeutral.step s c).2.map V.int)) := fun {o} => by rw [upd_ne (fun e => nlq e.symm)]; exact hq4
        refine ⟨_, rfl, .inl ⟨rfl, _, SqL.of upd_same⟩, _, rfl, l, q, _, _, rfl, rfl, upd_same, hq5, (by rw [List.length_append, List.length_map, List.length_map]; exact Nat.le_of_lt (big_small (by show out.length + 1 + _ ≤ 100000; omega))), ?_⟩
        refine ⟨_, rfl, ?_⟩
        refine ⟨_, Nat.lt_succ_self cs2.length, i + 1 + args.length, cs2, (VbchahNeutral.step s c).1, out ++ ((VbchahNeutral.step s c).2.length : Int) :: (VbchahNeutral.step s c).2, _, _, rfl, ?_, ?_, ?_, by omega, ?_, ?_, ?_, rfl⟩
        · rcases hA with n | all
          · rcases kl.seq (s3.seq L') with (h | ⟨o, h⟩) | h
            · exact .inl (.inl (by rw [upd_ne n, upd_ne n]; exact h))
            · exact .inl (.inr ⟨o, by rw [upd_ne n, upd_ne n]; exact h⟩)
            · exact .inr h
          · exact all _
        · exact (A4.keep (Keep.lst hl4)).keep (Keep.lst upd_same)
        · rw [upd_same, List.length_map, List.map_append, List.append_assoc]
          rfl
        · have e : ns.drop (i + 1 + args.length) = t := by
            have e1 : i + 1 + args.length = i + (1 + args.length) := by omega
            rw [e1, ← List.drop_drop, hdr, Nat.add_comm 1, List.drop_succ_cons, List.drop_left']
            rfl
          try dsimp only
          rw [e]
          exact ln2
        · rw [tl, told_played, List.append_assoc]
        · rw [List.length_append, List.length_cons]
          omega
    · have z : ¬ ((i : Nat) : Int) < ((ns.length : Nat) : Int) := fun y => z (decide_eq_true y)
      have e : ns.drop i = [] := List.drop_eq_nil_of_le (by omega)
      rw [e] at ln
      cases ln with
      | nil =>
        rw [told_nil, List.append_nil] at tl
        refine ⟨_, rfl, k H' l ?_⟩
        rw [tl]
        exact hl'
      | cons rd _ _ => cases rd
end
end U
end
section
set_option linter.all false
set_option Elab.async false
set_option linter.all false
set_option maxRecDepth 100000
set_option maxHeartbeats 4000000
namespace U
open PySem PySem.Spec PyProof.Rows L2 L3 Lb
structure Ex (K : PySem.W.Frag) (mg : Str → Option Value) (x : Str) (st : Stmt) (ps : List Str) : Prop where
  ex : ∃ f fd, Fun K x x st f fd ∧ mg x = some (.ref f) ∧ PySem.W.keepIn K (.ref f) = true ∧ Binds K fd ps []
structure ExC (K : PySem.W.Frag) (mg : Str → Option Value) (x q : Str) (C : Addr) (st : Stmt) (ps : List Str) : Prop where
  ex : ∃ f fd, Mk K C f ∧ Fun K "__init__" q st f fd ∧ mg x = some (.ref C) ∧ Binds K fd ps []
theorem Ex.def {P : Program} {w : World} {K : PySem.W.Frag} {mg : Str → Option Value} {base : Heap} {x : Str} {st : Stmt} {ps : List Str} {k : Nat} {sp : Sp} (E : Ex K mg x st ps) (h : ∀ f fd, Fun K x x st f fd → FnOk P w K mg base CX0 k f fd ps sp) : Def P w K mg base x k ps sp := by
  obtain ⟨f, fd, F, e, kp, b⟩ := E.ex
  exact ⟨f, fd, h f fd F, e, kp, b⟩
theorem ExC.new {P : Program} {w : World} {K : PySem.W.Frag} {mg : Str → Option Value} {base : Heap} {x q : Str} {C : Addr} {st : Stmt} {ps : List Str} {k : Nat} {sp : Sp} (E : ExC K mg x q C st ps) (h : ∀ f fd, Fun K "__init__" q st f fd → FnOk P w K mg base CX0 k f fd ps sp) : New P w K mg base x C k ps sp := by
  obtain ⟨f, fd, M, F, e, b⟩ := E.ex
  exact ⟨f, fd, M, h f fd F, e, b⟩
theorem ex_mk {K : PySem.W.Frag} {h : Heap} {mg : Str → Option Value} {x : Str} {st : Stmt} {ps : List Str} {f : Addr} {oc : Value} {od an : Option Addr} {osl : Array (Option Value)} {kV doc pm cdv ct : Value} (X : K.In h) (G : h.Ns mainGlobals mg)
    (b : ∀ f fd, Fun K x x st f fd → Binds K fd ps []) (a : PySem.W.nsIn K mainGlobals x = some (some (.ref f))) (l : K.lookup f = some ⟨oc, od, .func (PySem.W.fnOf x x (defArgs st) (defBody st) (defScope st) .none kV doc pm an cdv ct), osl⟩)
    (c : PySem.W.codeIn K cdv x = true) (k : PySem.W.keepIn K (.ref f) = true) : Ex K mg x st ps := by
  have F := fun_mk (st := st) l c k
  exact ⟨f, _, F, PySem.W.mg_of X G a, k, b f _ F⟩
theorem exC_mk {K : PySem.W.Frag} {h : Heap} {mg : Str → Option Value} {x q : Str} {C : Addr} {st : Stmt} {ps : List Str} {f : Addr} {oc : Value} {od an : Option Addr} {osl : Array (Option Value)} {kV doc pm cdv ct : Value} (X : K.In h) (G : h.Ns mainGlobals mg)
    (b : ∀ f fd, Fun K "__init__" q st f fd → Binds K fd ps []) (aC : PySem.W.nsIn K mainGlobals x = some (some (.ref C))) (a : PySem.W.findIn K (.ref C) "__init__" = some (some (.ref f))) (i : PySem.W.isFn K (.ref f) = true)
    (l : K.lookup f = some ⟨oc, od, .func (PySem.W.fnOf "__init__" q (defArgs st) (defBody st) (defScope st) .none kV doc pm an cdv ct), osl⟩) (c : PySem.W.codeIn K cdv q = true) (k : PySem.W.keepIn K (.ref f) = true) (mk : PySem.W.makesIn K C = true) (kc : PySem.W.keepIn K (.ref C) = true) : ExC K mg x q C st ps := by
  have F := fun_mk (st := st) l c k
  exact ⟨f, _, ⟨mk, a, i, kc⟩, F, PySem.W.mg_of X G aC, b f _ F⟩
theorem num_mk {K : PySem.W.Frag} {h : Heap} {mg : Str → Option Value} {x : Str} {n : Int} {t : Tok} (X : K.In h) (G : h.Ns mainGlobals mg) (a : PySem.W.nsIn K mainGlobals x = some (some (.int n t))) : ∃ t, mg x = some (.int n t) := ⟨t, PySem.W.mg_of X G a⟩
theorem tup_mk {K : PySem.W.Frag} {a : Addr} {o : Obj} {its : Array Value} {n : Nat} {xs : List V} (l : K.lookup a = some o) (c : o.cls = .type "tuple") (d : o.data = .seq its n) (z : its.size ≤ sizeLine) (v : Vals xs its.toList) : ∀ H : Hp, SqT K H a xs := fun _ => .inr ⟨o, its, n, l, c, d, z, v⟩
section
variable {K : PySem.W.Frag}
theorem b_is_member_key (f : Addr) (fd : FuncData) (F : Fun K "is_member_key" "is_member_key" s_is_member_key f fd) : Binds K fd ["key"] [] := F.binds fun _ _ _ _ _ _ us hl => match us, hl with | [_], _ => rfl
theorem b_is_bearer_key (f : Addr) (fd : FuncData) (F : Fun K "is_bearer_key" "is_bearer_key" s_is_bearer_key f fd) : Binds K fd ["key"] [] := F.binds fun _ _ _ _ _ _ us hl => match us, hl with | [_], _ => rfl
theorem b_is_money (f : Addr) (fd : FuncData) (F : Fun K "is_money" "is_money" s_is_money f fd) : Binds K fd ["amount"] [] := F.binds fun _ _ _ _ _ _ us hl => match us, hl with | [_], _ => rfl
theorem b_is_weight (f : Addr) (fd : FuncData) (F : Fun K "is_weight" "is_weight" s_is_weight f fd) : Binds K fd ["amount"] [] := F.binds fun _ _ _ _ _ _ us hl => match us, hl with | [_], _ => rfl
theorem b_is_multiple (f : Addr) (fd : FuncData) (F : Fun K "is_multiple" "is_multiple" s_is_multiple f fd) : Binds K fd ["amount"] [] := F.binds fun _ _ _ _ _ _ us hl => match us, hl with | [_], _ => rfl
theorem b_is_some_units (f : Addr) (fd : FuncData) (F : Fun K "is_some_units" "is_some_units" s_is_some_units f fd) : Binds K fd ["amount"] [] := F.binds fun _ _ _ _ _ _ us hl => match us, hl with | [_], _ => rfl
theorem b_is_loss (f : Addr) (fd : FuncData) (F : Fun K "is_loss" "is_loss" s_is_loss f fd) : Binds K fd ["amount"] [] := F.binds fun _ _ _ _ _ _ us hl => match us, hl with | [_], _ => rfl
theorem b_is_layer (f : Addr) (fd : FuncData) (F : Fun K "is_layer" "is_layer" s_is_layer f fd) : Binds K fd ["k"] [] := F.binds fun _ _ _ _ _ _ us hl => match us, hl with | [_], _ => rfl
theorem b_is_share_list (f : Addr) (fd : FuncData) (F : Fun K "is_share_list" "is_share_list" s_is_share_list f fd) : Binds K fd ["given"] [] := F.binds fun _ _ _ _ _ _ us hl => match us, hl with | [_], _ => rfl
theorem b_room_of (f : Addr) (fd : FuncData) (F : Fun K "room_of" "room_of" s_room f fd) : Binds K fd ["bearers"] [] := F.binds fun _ _ _ _ _ _ us hl => match us, hl with | [_], _ => rfl
theorem b_total_weight (f : Addr) (fd : FuncData) (F : Fun K "total_weight" "total_weight" s_weight f fd) : Binds K fd ["bearers"] [] := F.binds fun _ _ _ _ _ _ us hl => match us, hl with | [_], _ => rfl
theorem b_filled_by (f : Addr) (fd : FuncData) (F : Fun K "filled_by" "filled_by" s_filled f fd) : Binds K fd ["bearers", "units"] [] := F.binds fun _ _ _ _ _ _ us hl => match us, hl with | [_, _], _ => rfl
theorem b_comes_before (f : Addr) (fd : FuncData) (F : Fun K "comes_before" "comes_before" s_before f fd) : Binds K fd ["one", "other", "given"] [] := F.binds fun _ _ _ _ _ _ us hl => match us, hl with | [_, _, _], _ => rfl
theorem b_next_taker (f : Addr) (fd : FuncData) (F : Fun K "next_taker" "next_taker" s_next f fd) : Binds K fd ["bearers", "given"] [] := F.binds fun _ _ _ _ _ _ us hl => match us, hl with | [_, _], _ => rfl
theorem b_give_one_by_one (f : Addr) (fd : FuncData) (F : Fun K "give_one_by_one" "give_one_by_one" s_give f fd) : Binds K fd ["bearers", "given", "units"] [] := F.binds fun _ _ _ _ _ _ us hl => match us, hl with | [_, _, _], _ => rfl
theorem b_given_by_weight (f : Addr) (fd : FuncData) (F : Fun K "given_by_weight" "given_by_weight" s_given f fd) : Binds K fd ["bearers", "units"] [] := F.binds fun _ _ _ _ _ _ us hl => match us, hl with | [_, _], _ => rfl
theorem b_weighted_of (f : Addr) (fd : FuncData) (F : Fun K "weighted_of" "weighted_of" s_weighted_of f fd) : Binds K fd ["bearers"] [] := F.binds fun _ _ _ _ _ _ us hl => match us, hl with | [_], _ => rfl
theorem b_with_weight_1 (f : Addr) (fd : FuncData) (F : Fun K "with_weight_1" "with_weight_1" s_with_weight_1 f fd) : Binds K fd ["bearer"] [] := F.binds fun _ _ _ _ _ _ us hl => match us, hl with | [_], _ => rfl
theorem b_weightless_of (f : Addr) (fd : FuncData) (F : Fun K "weightless_of" "weightless_of" s_weightless_of f fd) : Binds K fd ["bearers"] [] := F.binds fun _ _ _ _ _ _ us hl => match us, hl with | [_], _ => rfl
theorem b_shares_after (f : Addr) (fd : FuncData) (F : Fun K "shares_after" "shares_after" s_shares f fd) : Binds K fd ["bearers", "units"] [] := F.binds fun _ _ _ _ _ _ us hl => match us, hl with | [_, _], _ => rfl
theorem b_taker_of (f : Addr) (fd : FuncData) (F : Fun K "taker_of" "taker_of" s_taker_of f fd) : Binds K fd ["bearers", "unit"] [] := F.binds fun _ _ _ _ _ _ us hl => match us, hl with | [_, _], _ => rfl
theorem b_units_up_to (f : Addr) (fd : FuncData) (F : Fun K "units_up_to" "units_up_to" s_units_up_to f fd) : Binds K fd ["other", "bearer", "share"] [] := F.binds fun _ _ _ _ _ _ us hl => match us, hl with | [_, _, _], _ => rfl
theorem b_place_by_weight (f : Addr) (fd : FuncData) (F : Fun K "place_by_weight" "place_by_weight" s_place_by_weight f fd) : Binds K fd ["bearers", "bearer", "share"] [] := F.binds fun _ _ _ _ _ _ us hl => match us, hl with | [_, _, _], _ => rfl
theorem b_place_of (f : Addr) (fd : FuncData) (F : Fun K "place_of" "place_of" s_place_of f fd) : Binds K fd ["bearers", "bearer", "share"] [] := F.binds fun _ _ _ _ _ _ us hl => match us, hl with | [_, _, _], _ => rfl
theorem b_other_members (f : Addr) (fd : FuncData) (F : Fun K "other_members" "other_members" s_others f fd) : Binds K fd ["house"] [] := F.binds fun _ _ _ _ _ _ us hl => match us, hl with | [_], _ => rfl
theorem b_most_of_member (f : Addr) (fd : FuncData) (F : Fun K "most_of_member" "most_of_member" s_most f fd) : Binds K fd ["house", "k", "member"] [] := F.binds fun _ _ _ _ _ _ us hl => match us, hl with | [_, _, _], _ => rfl
theorem b_bearers_of (f : Addr) (fd : FuncData) (F : Fun K "bearers_of" "bearers_of" s_bearers f fd) : Binds K fd ["house", "k"] [] := F.binds fun _ _ _ _ _ _ us hl => match us, hl with | [_, _], _ => rfl
theorem b_room_at (f : Addr) (fd : FuncData) (F : Fun K "room_at" "room_at" s_roomAt f fd) : Binds K fd ["house", "k"] [] := F.binds fun _ _ _ _ _ _ us hl => match us, hl with | [_, _], _ => rfl
theorem b_room_ahead (f : Addr) (fd : FuncData) (F : Fun K "room_ahead" "room_ahead" s_ahead f fd) : Binds K fd ["house", "k"] [] := F.binds fun _ _ _ _ _ _ us hl => match us, hl with | [_, _], _ => rfl
theorem b_borne_at (f : Addr) (fd : FuncData) (F : Fun K "borne_at" "borne_at" s_borne f fd) : Binds K fd ["house", "k", "loss"] [] := F.binds fun _ _ _ _ _ _ us hl => match us, hl with | [_, _, _], _ => rfl
theorem b_covered_at (f : Addr) (fd : FuncData) (F : Fun K "covered_at" "covered_at" s_covered f fd) : Binds K fd ["house", "loss"] [] := F.binds fun _ _ _ _ _ _ us hl => match us, hl with | [_, _], _ => rfl
theorem b_uncovered_at (f : Addr) (fd : FuncData) (F : Fun K "uncovered_at" "uncovered_at" s_uncovered f fd) : Binds K fd ["house", "loss"] [] := F.binds fun _ _ _ _ _ _ us hl => match us, hl with | [_, _], _ => rfl
theorem b_shares_at (f : Addr) (fd : FuncData) (F : Fun K "shares_at" "shares_at" s_sharesAt f fd) : Binds K fd ["house", "k", "loss"] [] := F.binds fun _ _ _ _ _ _ us hl => match us, hl with | [_, _, _], _ => rfl
theorem b_bearer_of (f : Addr) (fd : FuncData) (F : Fun K "bearer_of" "bearer_of" s_bearer_of f fd) : Binds K fd ["house", "k", "key"] [] := F.binds fun _ _ _ _ _ _ us hl => match us, hl with | [_, _, _], _ => rfl
theorem b_share_at (f : Addr) (fd : FuncData) (F : Fun K "share_at" "share_at" s_share_at f fd) : Binds K fd ["house", "k", "key", "loss"] [] := F.binds fun _ _ _ _ _ _ us hl => match us, hl with | [_, _, _, _], _ => rfl
theorem b_taker_of_unit (f : Addr) (fd : FuncData) (F : Fun K "taker_of_unit" "taker_of_unit" s_taker_of_unit f fd) : Binds K fd ["house", "unit"] [] := F.binds fun _ _ _ _ _ _ us hl => match us, hl with | [_, _], _ => rfl
theorem b_event_refusal (f : Addr) (fd : FuncData) (F : Fun K "event_refusal" "event_refusal" s_event_refusal f fd) : Binds K fd ["house", "in_range"] [] := F.binds fun _ _ _ _ _ _ us hl => match us, hl with | [_, _], _ => rfl
theorem b_bearer_refusal (f : Addr) (fd : FuncData) (F : Fun K "bearer_refusal" "bearer_refusal" s_bearer_refusal f fd) : Binds K fd ["house", "in_range", "k", "key"] [] := F.binds fun _ _ _ _ _ _ us hl => match us, hl with | [_, _, _, _], _ => rfl
theorem b_add_member (f : Addr) (fd : FuncData) (F : Fun K "add_member" "add_member" s_add_member f fd) : Binds K fd ["house", "key", "margin", "fund", "gain", "weight"] [] := F.binds fun _ _ _ _ _ _ us hl => match us, hl with | [_, _, _, _, _, _], _ => rfl
theorem b_set_house (f : Addr) (fd : FuncData) (F : Fun K "set_house" "set_house" s_set_house f fd) : Binds K fd ["house", "first", "last", "multiple"] [] := F.binds fun _ _ _ _ _ _ us hl => match us, hl with | [_, _, _, _], _ => rfl
theorem b_is_change (f : Addr) (fd : FuncData) (F : Fun K "is_change" "is_change" s_is_change f fd) : Binds K fd ["what", "amount"] [] := F.binds fun _ _ _ _ _ _ us hl => match us, hl with | [_, _], _ => rfl
theorem b_set_value (f : Addr) (fd : FuncData) (F : Fun K "set_value" "set_value" s_set_value f fd) : Binds K fd ["member", "what", "amount"] [] := F.binds fun _ _ _ _ _ _ us hl => match us, hl with | [_, _, _], _ => rfl
theorem b_change_member (f : Addr) (fd : FuncData) (F : Fun K "change_member" "change_member" s_change_member f fd) : Binds K fd ["house", "key", "what", "amount"] [] := F.binds fun _ _ _ _ _ _ us hl => match us, hl with | [_, _, _, _], _ => rfl
theorem b_open_event (f : Addr) (fd : FuncData) (F : Fun K "open_event" "open_event" s_open_event f fd) : Binds K fd ["house", "key"] [] := F.binds fun _ _ _ _ _ _ us hl => match us, hl with | [_, _], _ => rfl
theorem b_lose_units (f : Addr) (fd : FuncData) (F : Fun K "lose_units" "lose_units" s_lose_units f fd) : Binds K fd ["house", "amount"] [] := F.binds fun _ _ _ _ _ _ us hl => match us, hl with | [_, _], _ => rfl
theorem b_recover_units (f : Addr) (fd : FuncData) (F : Fun K "recover_units" "recover_units" s_recover_units f fd) : Binds K fd ["house", "amount"] [] := F.binds fun _ _ _ _ _ _ us hl => match us, hl with | [_, _], _ => rfl
theorem b_settle_members_and_pieces (f : Addr) (fd : FuncData) (F : Fun K "settle_members_and_pieces" "settle_members_and_pieces" s_settle_members_and_pieces f fd) : Binds K fd ["house"] [] := F.binds fun _ _ _ _ _ _ us hl => match us, hl with | [_], _ => rfl
theorem b_close_event (f : Addr) (fd : FuncData) (F : Fun K "close_event" "close_event" s_close_event f fd) : Binds K fd ["house"] [] := F.binds fun _ _ _ _ _ _ us hl => match us, hl with | [_], _ => rfl
theorem b_who_view (f : Addr) (fd : FuncData) (F : Fun K "who_view" "who_view" s_who_view f fd) : Binds K fd ["house", "unit"] [] := F.binds fun _ _ _ _ _ _ us hl => match us, hl with | [_, _], _ => rfl
theorem b_next_view (f : Addr) (fd : FuncData) (F : Fun K "next_view" "next_view" s_next_view f fd) : Binds K fd ["house"] [] := F.binds fun _ _ _ _ _ _ us hl => match us, hl with | [_], _ => rfl
theorem b_at_view (f : Addr) (fd : FuncData) (F : Fun K "at_view" "at_view" s_at_view f fd) : Binds K fd ["house", "loss", "k", "key"] [] := F.binds fun _ _ _ _ _ _ us hl => match us, hl with | [_, _, _, _], _ => rfl
theorem b_between_view (f : Addr) (fd : FuncData) (F : Fun K "between_view" "between_view" s_between_view f fd) : Binds K fd ["house", "lower", "upper", "k", "key"] [] := F.binds fun _ _ _ _ _ _ us hl => match us, hl with | [_, _, _, _, _], _ => rfl
theorem b_until_view (f : Addr) (fd : FuncData) (F : Fun K "until_view" "until_view" s_until_view f fd) : Binds K fd ["house", "k", "key", "share"] [] := F.binds fun _ _ _ _ _ _ us hl => match us, hl with | [_, _, _, _], _ => rfl
theorem b_check_view (f : Addr) (fd : FuncData) (F : Fun K "check_view" "check_view" s_check_view f fd) : Binds K fd ["house", "k", "units", "given"] [] := F.binds fun _ _ _ _ _ _ us hl => match us, hl with | [_, _, _, _], _ => rfl
theorem b_layer_view (f : Addr) (fd : FuncData) (F : Fun K "layer_view" "layer_view" s_layer_view f fd) : Binds K fd ["house", "k"] [] := F.binds fun _ _ _ _ _ _ us hl => match us, hl with | [_, _], _ => rfl
theorem b_share_view (f : Addr) (fd : FuncData) (F : Fun K "share_view" "share_view" s_share_view f fd) : Binds K fd ["house", "k", "key"] [] := F.binds fun _ _ _ _ _ _ us hl => match us, hl with | [_, _, _], _ => rfl
theorem b_shares_view (f : Addr) (fd : FuncData) (F : Fun K "shares_view" "shares_view" s_shares_view f fd) : Binds K fd ["house", "k"] [] := F.binds fun _ _ _ _ _ _ us hl => match us, hl with | [_, _], _ => rfl
theorem b_person_view (f : Addr) (fd : FuncData) (F : Fun K "person_view" "person_view" s_person_view f fd) : Binds K fd ["house", "key"] [] := F.binds fun _ _ _ _ _ _ us hl => match us, hl with | [_, _], _ => rfl
theorem b_fair_share (f : Addr) (fd : FuncData) (F : Fun K "fair_share" "fair_share" s_fair_share f fd) : Binds K fd ["house", "k", "key"] [] := F.binds fun _ _ _ _ _ _ us hl => match us, hl with | [_, _, _], _ => rfl
theorem b_fair_view (f : Addr) (fd : FuncData) (F : Fun K "fair_view" "fair_view" s_fair_view f fd) : Binds K fd ["house", "k", "key"] [] := F.binds fun _ _ _ _ _ _ us hl => match us, hl with | [_, _, _], _ => rfl
theorem b_heaps_view (f : Addr) (fd : FuncData) (F : Fun K "heaps_view" "heaps_view" s_heaps_view f fd) : Binds K fd ["house"] [] := F.binds fun _ _ _ _ _ _ us hl => match us, hl with | [_], _ => rfl
theorem b_members_view (f : Addr) (fd : FuncData) (F : Fun K "members_view" "members_view" s_members_view f fd) : Binds K fd ["house"] [] := F.binds fun _ _ _ _ _ _ us hl => match us, hl with | [_], _ => rfl
theorem b_answer_change (f : Addr) (fd : FuncData) (F : Fun K "answer_change" "answer_change" s_answer_change f fd) : Binds K fd ["house", "number", "given"] [] := F.binds fun _ _ _ _ _ _ us hl => match us, hl with | [_, _, _], _ => rfl
theorem b_answer_unit_view (f : Addr) (fd : FuncData) (F : Fun K "answer_unit_view" "answer_unit_view" s_answer_unit_view f fd) : Binds K fd ["house", "number", "given"] [] := F.binds fun _ _ _ _ _ _ us hl => match us, hl with | [_, _, _], _ => rfl
theorem b_answer_view (f : Addr) (fd : FuncData) (F : Fun K "answer_view" "answer_view" s_answer_view f fd) : Binds K fd ["house", "number", "given"] [] := F.binds fun _ _ _ _ _ _ us hl => match us, hl with | [_, _, _], _ => rfl
theorem b_answer_call (f : Addr) (fd : FuncData) (F : Fun K "answer_call" "answer_call" s_answer_call f fd) : Binds K fd ["house", "number", "given"] [] := F.binds fun _ _ _ _ _ _ us hl => match us, hl with | [_, _, _], _ => rfl
theorem b_end_of_call (f : Addr) (fd : FuncData) (F : Fun K "end_of_call" "end_of_call" s_end_of_call f fd) : Binds K fd ["calls", "place"] [] := F.binds fun _ _ _ _ _ _ us hl => match us, hl with | [_, _], _ => rfl
theorem b_Bearer (f : Addr) (fd : FuncData) (F : Fun K "__init__" "Bearer.__init__" s_initB f fd) : Binds K fd ["self", "key", "weight", "most"] [] := F.binds fun _ _ _ _ _ _ us hl => match us, hl with | [_, _, _, _], _ => rfl
theorem b_Member (f : Addr) (fd : FuncData) (F : Fun K "__init__" "Member.__init__" s_Member___init__ f fd) : Binds K fd ["self", "key", "margin", "fund", "gain", "weight"] [] := F.binds fun _ _ _ _ _ _ us hl => match us, hl with | [_, _, _, _, _, _], _ => rfl
theorem b_House (f : Addr) (fd : FuncData) (F : Fun K "__init__" "House.__init__" s_House___init__ f fd) : Binds K fd ["self"] [] := F.binds fun _ _ _ _ _ _ us hl => match us, hl with | [_], _ => rfl
end
theorem all_defs {P : Program} {w : World} {K : PySem.W.Frag} {mg : Str → Option Value} {base : Heap} {C CH CM nob cnt fa : Addr} {fda : FuncData} (B : Bt mg) (T : Tn mg) (G : Tg K mg nob cnt) (TBe : TB K C) (TMe : TM K CM) (THo : TH K CH)
    (E_Bearer : ExC K mg "Bearer" "Bearer.__init__" C s_initB ["self", "key", "weight", "most"])
    (E_Member : ExC K mg "Member" "Member.__init__" CM s_Member___init__ ["self", "key", "margin", "fund", "gain", "weight"])
    (E_House : ExC K mg "House" "House.__init__" CH s_House___init__ ["self"])
    (E_is_member_key : Ex K mg "is_member_key" s_is_member_key ["key"])
    (E_is_bearer_key : Ex K mg "is_bearer_key" s_is_bearer_key ["key"])
    (E_is_money : Ex K mg "is_money" s_is_money ["amount"])
    (E_is_weight : Ex K mg "is_weight" s_is_weight ["amount"])
    (E_is_multiple : Ex K mg "is_multiple" s_is_multiple ["amount"])
    (E_is_some_units : Ex K mg "is_some_units" s_is_some_units ["amount"])
    (E_is_loss : Ex K mg "is_loss" s_is_loss ["amount"])
    (E_is_layer : Ex K mg "is_layer" s_is_layer ["k"])
    (E_is_share_list : Ex K mg "is_share_list" s_is_share_list ["given"])
    (E_room_of : Ex K mg "room_of" s_room ["bearers"])
    (E_total_weight : Ex K mg "total_weight" s_weight ["bearers"])
    (E_filled_by : Ex K mg "filled_by" s_filled ["bearers", "units"])
    (E_comes_before : Ex K mg "comes_before" s_before ["one", "other", "given"])
    (E_next_taker : Ex K mg "next_taker" s_next ["bearers", "given"])
    (E_give_one_by_one : Ex K mg "give_one_by_one" s_give ["bearers", "given", "units"])
    (E_given_by_weight : Ex K mg "given_by_weight" s_given ["bearers", "units"])
    (E_weighted_of : Ex K mg "weighted_of" s_weighted_of ["bearers"])
    (E_with_weight_1 : Ex K mg "with_weight_1" s_with_weight_1 ["bearer"])
    (E_weightless_of : Ex K mg "weightless_of" s_weightless_of ["bearers"])
    (E_shares_after : Ex K mg "shares_after" s_shares ["bearers", "units"])
    (E_taker_of : Ex K mg "taker_of" s_taker_of ["bearers", "unit"])
    (E_units_up_to : Ex K mg "units_up_to" s_units_up_to ["other", "bearer", "share"])
    (E_place_by_weight : Ex K mg "place_by_weight" s_place_by_weight ["bearers", "bearer", "share"])
    (E_place_of : Ex K mg "place_of" s_place_of ["bearers", "bearer", "share"])
    (E_other_members : Ex K mg "other_members" s_others ["house"])
    (E_most_of_member : Ex K mg "most_of_member" s_most ["house", "k", "member"])
    (E_bearers_of : Ex K mg "bearers_of" s_bearers ["house", "k"])
    (E_room_at : Ex K mg "room_at" s_roomAt ["house", "k"])
    (E_room_ahead : Ex K mg "room_ahead" s_ahead ["house", "k"])
    (E_borne_at : Ex K mg "borne_at" s_borne ["house", "k", "loss"])
    (E_covered_at : Ex K mg "covered_at" s_covered ["house", "loss"])
    (E_uncovered_at : Ex K mg "uncovered_at" s_uncovered ["house", "loss"])
    (E_shares_at : Ex K mg "shares_at" s_sharesAt ["house", "k", "loss"])
    (E_bearer_of : Ex K mg "bearer_of" s_bearer_of ["house", "k", "key"])
    (E_share_at : Ex K mg "share_at" s_share_at ["house", "k", "key", "loss"])
    (E_taker_of_unit : Ex K mg "taker_of_unit" s_taker_of_unit ["house", "unit"])
    (E_event_refusal : Ex K mg "event_refusal" s_event_refusal ["house", "in_range"])
    (E_bearer_refusal : Ex K mg "bearer_refusal" s_bearer_refusal ["house", "in_range", "k", "key"])
    (E_add_member : Ex K mg "add_member" s_add_member ["house", "key", "margin", "fund", "gain", "weight"])
    (E_set_house : Ex K mg "set_house" s_set_house ["house", "first", "last", "multiple"])
    (E_is_change : Ex K mg "is_change" s_is_change ["what", "amount"])
    (E_set_value : Ex K mg "set_value" s_set_value ["member", "what", "amount"])
    (E_change_member : Ex K mg "change_member" s_change_member ["house", "key", "what", "amount"])
    (E_open_event : Ex K mg "open_event" s_open_event ["house", "key"])
    (E_lose_units : Ex K mg "lose_units" s_lose_units ["house", "amount"])
    (E_recover_units : Ex K mg "recover_units" s_recover_units ["house", "amount"])
    (E_settle_members_and_pieces : Ex K mg "settle_members_and_pieces" s_settle_members_and_pieces ["house"])
    (E_close_event : Ex K mg "close_event" s_close_event ["house"])
    (E_who_view : Ex K mg "who_view" s_who_view ["house", "unit"])
    (E_next_view : Ex K mg "next_view" s_next_view ["house"])
    (E_at_view : Ex K mg "at_view" s_at_view ["house", "loss", "k", "key"])
    (E_between_view : Ex K mg "between_view" s_between_view ["house", "lower", "upper", "k", "key"])
    (E_until_view : Ex K mg "until_view" s_until_view ["house", "k", "key", "share"])
    (E_check_view : Ex K mg "check_view" s_check_view ["house", "k", "units", "given"])
    (E_layer_view : Ex K mg "layer_view" s_layer_view ["house", "k"])
    (E_share_view : Ex K mg "share_view" s_share_view ["house", "k", "key"])
    (E_shares_view : Ex K mg "shares_view" s_shares_view ["house", "k"])
    (E_person_view : Ex K mg "person_view" s_person_view ["house", "key"])
    (E_fair_share : Ex K mg "fair_share" s_fair_share ["house", "k", "key"])
    (E_fair_view : Ex K mg "fair_view" s_fair_view ["house", "k", "key"])
    (E_heaps_view : Ex K mg "heaps_view" s_heaps_view ["house"])
    (E_members_view : Ex K mg "members_view" s_members_view ["house"])
    (E_answer_change : Ex K mg "answer_change" s_answer_change ["house", "number", "given"])
    (E_answer_unit_view : Ex K mg "answer_unit_view" s_answer_unit_view ["house", "number", "given"])
    (E_answer_view : Ex K mg "answer_view" s_answer_view ["house", "number", "given"])
    (E_answer_call : Ex K mg "answer_call" s_answer_call ["house", "number", "given"])
    (E_end_of_call : Ex K mg "end_of_call" s_end_of_call ["calls", "place"])
    (F : Fun K "answers" "answers" s_answers fa fda) : FnOk P w K mg base CX0 12 fa fda ["calls"] (spAnswers K) := by
  have N_Bearer : New P w K mg base "Bearer" C 1 ["self", "key", "weight", "most"] (spInitB C) := E_Bearer.new fun f fd F => ok_initB F TBe
  have N_Member : New P w K mg base "Member" CM 1 ["self", "key", "margin", "fund", "gain", "weight"] (spInitM CM) := E_Member.new fun f fd F => ok_initM F TMe
  have N_House : New P w K mg base "House" CH 1 ["self"] (spInitH CH CM) := E_House.new fun f fd F => ok_initH F THo
  have D_is_member_key : Def P w K mg base "is_member_key" 1 ["key"] (spIn 1 Vbchah.KEY) := E_is_member_key.def fun f fd F => ok_is_member_key F T
  have D_is_bearer_key : Def P w K mg base "is_bearer_key" 1 ["key"] (spIn 0 Vbchah.KEY) := E_is_bearer_key.def fun f fd F => ok_is_bearer_key F T
  have D_is_money : Def P w K mg base "is_money" 1 ["amount"] (spIn 0 Vbchah.MONEY) := E_is_money.def fun f fd F => ok_is_money F T
  have D_is_weight : Def P w K mg base "is_weight" 1 ["amount"] (spIn 0 Vbchah.WEIGHT) := E_is_weight.def fun f fd F => ok_is_weight F T
  have D_is_multiple : Def P w K mg base "is_multiple" 1 ["amount"] (spIn 0 10) := E_is_multiple.def fun f fd F => ok_is_multiple F T
  have D_is_some_units : Def P w K mg base "is_some_units" 1 ["amount"] (spIn 1 Vbchah.LOSS) := E_is_some_units.def fun f fd F => ok_is_some_units F T
  have D_is_loss : Def P w K mg base "is_loss" 1 ["amount"] (spIn 0 Vbchah.LOSS) := E_is_loss.def fun f fd F => ok_is_loss F T
  have D_is_layer : Def P w K mg base "is_layer" 1 ["k"] (spIn 1 Vbchah.LAYERS) := E_is_layer.def fun f fd F => ok_is_layer F T
  have D_is_share_list : Def P w K mg base "is_share_list" 2 ["given"] (spShareList K) := E_is_share_list.def fun f fd F => ok_is_share_list F B T D_is_loss
  have D_room_of : Def P w K mg base "room_of" 1 ["bearers"] (spRoom C) := E_room_of.def fun f fd F => ok_room F TBe B
  have D_total_weight : Def P w K mg base "total_weight" 1 ["bearers"] (spWeight C) := E_total_weight.def fun f fd F => ok_weight F TBe B
  have D_filled_by : Def P w K mg base "filled_by" 2 ["bearers", "units"] (spFill C) := E_filled_by.def fun f fd F => ok_filled F TBe D_total_weight
  have D_comes_before : Def P w K mg base "comes_before" 1 ["one", "other", "given"] (spBefore C) := E_comes_before.def fun f fd F => ok_before F TBe
  have D_next_taker : Def P w K mg base "next_taker" 2 ["bearers", "given"] (spNext C) := E_next_taker.def fun f fd F => ok_next F TBe D_comes_before
  have D_give_one_by_one : Def P w K mg base "give_one_by_one" 3 ["bearers", "given", "units"] (spGive C) := E_give_one_by_one.def fun f fd F => ok_give F TBe B D_next_taker
  have D_given_by_weight : Def P w K mg base "given_by_weight" 4 ["bearers", "units"] (spGiven C) := E_given_by_weight.def fun f fd F => ok_given F TBe B D_filled_by D_room_of D_total_weight D_give_one_by_one
  have D_weighted_of : Def P w K mg base "weighted_of" 1 ["bearers"] (spWeighted C) := E_weighted_of.def fun f fd F => ok_weighted_of F TBe
  have D_with_weight_1 : Def P w K mg base "with_weight_1" 3 ["bearer"] (spOne C) := E_with_weight_1.def fun f fd F => ok_with_weight_1 F TBe N_Bearer
  have D_weightless_of : Def P w K mg base "weightless_of" 4 ["bearers"] (spWeightless C) := E_weightless_of.def fun f fd F => ok_weightless_of F TBe D_with_weight_1
  have D_shares_after : Def P w K mg base "shares_after" 5 ["bearers", "units"] (spShares C) := E_shares_after.def fun f fd F => ok_shares F TBe B D_weighted_of D_weightless_of D_room_of D_given_by_weight
  have D_taker_of : Def P w K mg base "taker_of" 6 ["bearers", "unit"] (spTaker C) := E_taker_of.def fun f fd F => ok_taker_of F TBe D_shares_after
  have D_units_up_to : Def P w K mg base "units_up_to" 1 ["other", "bearer", "share"] (spUpTo C) := E_units_up_to.def fun f fd F => ok_units_up_to F TBe
  have D_place_by_weight : Def P w K mg base "place_by_weight" 2 ["bearers", "bearer", "share"] (spPlaceW C) := E_place_by_weight.def fun f fd F => ok_place_by_weight F TBe B D_units_up_to
  have D_place_of : Def P w K mg base "place_of" 5 ["bearers", "bearer", "share"] (spPlace C) := E_place_of.def fun f fd F => ok_place_of F TBe D_weighted_of D_weightless_of D_with_weight_1 D_room_of D_place_by_weight
  have D_other_members : Def P w K mg base "other_members" 1 ["house"] (spOthers CH CM) := E_other_members.def fun f fd F => ok_others F TMe THo B
  have D_most_of_member : Def P w K mg base "most_of_member" 1 ["house", "k", "member"] (spMost CH CM) := E_most_of_member.def fun f fd F => ok_most F TMe THo
  have D_bearers_of : Def P w K mg base "bearers_of" 3 ["house", "k"] (spBearers C CH CM) := E_bearers_of.def fun f fd F => ok_bearers F TMe THo T N_Bearer D_other_members D_most_of_member
  have D_room_at : Def P w K mg base "room_at" 4 ["house", "k"] (spRoomAt CH CM) := E_room_at.def fun f fd F => ok_roomAt F D_room_of D_bearers_of
  have D_room_ahead : Def P w K mg base "room_ahead" 5 ["house", "k"] (spAhead CH CM) := E_room_ahead.def fun f fd F => ok_ahead F B D_room_at
  have D_borne_at : Def P w K mg base "borne_at" 6 ["house", "k", "loss"] (spBorne CH CM) := E_borne_at.def fun f fd F => ok_borne F B D_room_at D_room_ahead
  have D_covered_at : Def P w K mg base "covered_at" 6 ["house", "loss"] (spCovered CH CM) := E_covered_at.def fun f fd F => ok_covered F B T D_room_ahead
  have D_uncovered_at : Def P w K mg base "uncovered_at" 7 ["house", "loss"] (spUncovered CH CM) := E_uncovered_at.def fun f fd F => ok_uncovered F D_covered_at
  have D_shares_at : Def P w K mg base "shares_at" 7 ["house", "k", "loss"] (spSharesAt CH CM) := E_shares_at.def fun f fd F => ok_sharesAt F D_shares_after D_bearers_of D_borne_at
  have D_bearer_of : Def P w K mg base "bearer_of" 4 ["house", "k", "key"] (spBearerOf C CH CM) := E_bearer_of.def fun f fd F => ok_bearer_of F TBe D_bearers_of
  have D_share_at : Def P w K mg base "share_at" 8 ["house", "k", "key", "loss"] (spShareAt CH CM) := E_share_at.def fun f fd F => ok_share_at F D_shares_at
  have D_taker_of_unit : Def P w K mg base "taker_of_unit" 7 ["house", "unit"] (spTakerU K CH CM) := E_taker_of_unit.def fun f fd F => ok_taker_of_unit F B T G D_bearers_of D_room_of D_taker_of
  have D_event_refusal : Def P w K mg base "event_refusal" 1 ["house", "in_range"] (spEvRef CH CM) := E_event_refusal.def fun f fd F => ok_event_refusal F THo T
  have D_bearer_refusal : Def P w K mg base "bearer_refusal" 5 ["house", "in_range", "k", "key"] (spBRef C CH CM) := E_bearer_refusal.def fun f fd F => ok_bearer_refusal F T D_event_refusal D_bearer_of
  have D_add_member : Def P w K mg base "add_member" 3 ["house", "key", "margin", "fund", "gain", "weight"] (spAddMember CH CM) := E_add_member.def fun f fd F => ok_add_member F THo B T N_Member D_is_member_key D_is_money D_is_weight
  have D_set_house : Def P w K mg base "set_house" 2 ["house", "first", "last", "multiple"] (spSetHouse CH CM) := E_set_house.def fun f fd F => ok_set_house F THo T D_is_money D_is_multiple
  have D_is_change : Def P w K mg base "is_change" 2 ["what", "amount"] (spIsChange) := E_is_change.def fun f fd F => ok_is_change F T D_is_money D_is_weight
  have D_set_value : Def P w K mg base "set_value" 1 ["member", "what", "amount"] (spSetValue CM) := E_set_value.def fun f fd F => ok_set_value F TMe T
  have D_change_member : Def P w K mg base "change_member" 3 ["house", "key", "what", "amount"] (spChangeM CH CM) := E_change_member.def fun f fd F => ok_change_member F THo T D_is_member_key D_is_change D_set_value
  have D_open_event : Def P w K mg base "open_event" 2 ["house", "key"] (spOpenE CH CM) := E_open_event.def fun f fd F => ok_open_event F THo T D_is_member_key
  have D_lose_units : Def P w K mg base "lose_units" 8 ["house", "amount"] (spLoseU CH CM) := E_lose_units.def fun f fd F => ok_lose_units F THo T D_is_some_units D_covered_at D_uncovered_at
  have D_recover_units : Def P w K mg base "recover_units" 8 ["house", "amount"] (spRecoverU CH CM) := E_recover_units.def fun f fd F => ok_recover_units F THo T D_is_some_units D_covered_at D_uncovered_at
  have D_settle_members_and_pieces : Def P w K mg base "settle_members_and_pieces" 8 ["house"] (spSettle CH CM) := E_settle_members_and_pieces.def fun f fd F => ok_settle F TMe THo D_borne_at D_shares_at D_other_members
  have D_close_event : Def P w K mg base "close_event" 9 ["house"] (spCloseE CH CM) := E_close_event.def fun f fd F => ok_close_event F TMe THo T D_uncovered_at D_borne_at D_settle_members_and_pieces
  have D_who_view : Def P w K mg base "who_view" 8 ["house", "unit"] (spWhoV CH CM) := E_who_view.def fun f fd F => ok_who_view F B T D_is_some_units D_event_refusal D_taker_of_unit
  have D_next_view : Def P w K mg base "next_view" 8 ["house"] (spNextV CH CM) := E_next_view.def fun f fd F => ok_next_view F THo B T D_event_refusal D_taker_of_unit
  have D_at_view : Def P w K mg base "at_view" 9 ["house", "loss", "k", "key"] (spAtV CH CM) := E_at_view.def fun f fd F => ok_at_view F T D_is_loss D_is_layer D_is_bearer_key D_bearer_refusal D_share_at
  have D_between_view : Def P w K mg base "between_view" 9 ["house", "lower", "upper", "k", "key"] (spBetweenV CH CM) := E_between_view.def fun f fd F => ok_between_view F T D_is_loss D_is_layer D_is_bearer_key D_bearer_refusal D_share_at
  have D_until_view : Def P w K mg base "until_view" 6 ["house", "k", "key", "share"] (spUntilV CH CM) := E_until_view.def fun f fd F => ok_until_view F TBe T D_is_some_units D_is_layer D_is_bearer_key D_bearer_refusal D_bearer_of D_room_ahead D_bearers_of D_place_of
  have D_check_view : Def P w K mg base "check_view" 6 ["house", "k", "units", "given"] (spCheckV K CH CM) := E_check_view.def fun f fd F => ok_check_view F TBe T D_is_loss D_is_layer D_is_share_list D_event_refusal D_bearers_of D_room_of D_shares_after
  have D_layer_view : Def P w K mg base "layer_view" 7 ["house", "k"] (spLayerV CH CM) := E_layer_view.def fun f fd F => ok_layer_view F THo T D_is_layer D_event_refusal D_room_at D_borne_at
  have D_share_view : Def P w K mg base "share_view" 9 ["house", "k", "key"] (spShareV CH CM) := E_share_view.def fun f fd F => ok_share_view F THo T D_is_layer D_is_bearer_key D_bearer_refusal D_share_at
  have D_shares_view : Def P w K mg base "shares_view" 8 ["house", "k"] (spSharesV CH CM) := E_shares_view.def fun f fd F => ok_shares_view F THo B T D_is_layer D_event_refusal D_shares_at
  have D_person_view : Def P w K mg base "person_view" 8 ["house", "key"] (spPersonV CH CM) := E_person_view.def fun f fd F => ok_person_view F THo B T D_is_bearer_key D_event_refusal D_shares_at
  have D_fair_share : Def P w K mg base "fair_share" 7 ["house", "k", "key"] (spFairShare CH CM) := E_fair_share.def fun f fd F => ok_fair_share F THo TBe D_total_weight D_bearers_of D_borne_at D_bearer_of
  have D_fair_view : Def P w K mg base "fair_view" 9 ["house", "k", "key"] (spFairV CH CM) := E_fair_view.def fun f fd F => ok_fair_view F THo T D_is_layer D_is_bearer_key D_bearer_refusal D_share_at D_fair_share
  have D_heaps_view : Def P w K mg base "heaps_view" 1 ["house"] (spHeapsV CH CM) := E_heaps_view.def fun f fd F => ok_heaps_view F TMe THo B
  have D_members_view : Def P w K mg base "members_view" 1 ["house"] (spMembersV CH CM) := E_members_view.def fun f fd F => ok_members_view F THo B
  have D_answer_change : Def P w K mg base "answer_change" 10 ["house", "number", "given"] (spDisp isChange K CH CM) := E_answer_change.def fun f fd F => ok_answer_change F D_add_member D_set_house D_change_member D_open_event D_lose_units D_recover_units D_close_event
  have D_answer_unit_view : Def P w K mg base "answer_unit_view" 10 ["house", "number", "given"] (spDisp isUnits K CH CM) := E_answer_unit_view.def fun f fd F => ok_answer_unit_view F D_who_view D_at_view D_until_view D_next_view D_between_view D_check_view
  have D_answer_view : Def P w K mg base "answer_view" 10 ["house", "number", "given"] (spDisp isView K CH CM) := E_answer_view.def fun f fd F => ok_answer_view F D_layer_view D_share_view D_shares_view D_person_view D_heaps_view D_members_view D_fair_view
  have D_answer_call : Def P w K mg base "answer_call" 11 ["house", "number", "given"] (spDisp (fun _ => True) K CH CM) := E_answer_call.def fun f fd F => ok_answer_call F T D_answer_change D_answer_unit_view D_answer_view
  have D_end_of_call : Def P w K mg base "end_of_call" 1 ["calls", "place"] (spEnd K) := E_end_of_call.def fun f fd F => ok_end_of_call F T G
  exact ok_answers F B N_House D_end_of_call D_answer_call
end U
end
section
set_option linter.all false
set_option Elab.async false
set_option linter.all false
set_option maxRecDepth 100000
set_option maxHeartbeats 8000000
namespace U
open PySem PySem.Spec PyProof.Rows L2 L3 Lb
open PySem.W (nsIn findIn codeIn keepIn fnOf isFn plainGet hasDictIn plainOver makesIn)
theorem all_mk {P : Program} {w : World} {K : PySem.W.Frag} {h : Heap} {mg : Str → Option Value} {fa C CH CM nob cnt f1 f2 f3 f4 f5 f6 f7 f8 f9 f10 f11 f12 f13 f14 f15 f16 f17 f18 f19 f20 f21 f22 f23 f24 f25 f26 f27 f28 f29 f30 f31 f32 f33 f34 f35 f36 f37 f38 f39 f40 f41 f42 f43 f44 f45 f46 f47 f48 f49 f50 f51 f52 f53 f54 f55 f56 f57 f58 f59 f60 f61 f62 f63 f64 f65 f66 f67 f68 f69 f70 f71 : Addr} (X : K.In h) (G : h.Ns mainGlobals mg) (hfa : mg "answers" = some (.ref fa))
    {od1 an1 od2 an2 od3 an3 od4 an4 od5 an5 od6 an6 od7 an7 od8 an8 od9 an9 od10 an10 od11 an11 od12 an12 od13 an13 od14 an14 od15 an15 od16 an16 od17 an17 od18 an18 od19 an19 od20 an20 od21 an21 od22 an22 od23 an23 od24 an24 od25 an25 od26 an26 od27 an27 od28 an28 od29 an29 od30 an30 od31 an31 od32 an32 od33 an33 od34 an34 od35 an35 od36 an36 od37 an37 od38 an38 od39 an39 od40 an40 od41 an41 od42 an42 od43 an43 od44 an44 od45 an45 od46 an46 od47 an47 od48 an48 od49 an49 od50 an50 od51 an51 od52 an52 od53 an53 od54 an54 od55 an55 od56 an56 od57 an57 od58 an58 od59 an59 od60 an60 od61 an61 od62 an62 od63 an63 od64 an64 od65 an65 od66 an66 od67 an67 od68 an68 od69 an69 od70 an70 od71 an71 dN dA : Option Addr} {sl1 sl2 sl3 sl4 sl5 sl6 sl7 sl8 sl9 sl10 sl11 sl12 sl13 sl14 sl15 sl16 sl17 sl18 sl19 sl20 sl21 sl22 sl23 sl24 sl25 sl26 sl27 sl28 sl29 sl30 sl31 sl32 sl33 sl34 sl35 sl36 sl37 sl38 sl39 sl40 sl41 sl42 sl43 sl44 sl45 sl46 sl47 sl48 sl49 sl50 sl51 sl52 sl53 sl54 sl55 sl56 sl57 sl58 sl59 sl60 sl61 sl62 sl63 sl64 sl65 sl66 sl67 sl68 sl69 sl70 sl71 sN sA : Array (Option Value)} {oc1 kv1 dc1 pm1 cd1 ct1 oc2 kv2 dc2 pm2 cd2 ct2 oc3 kv3 dc3 pm3 cd3 ct3 oc4 kv4 dc4 pm4 cd4 ct4 oc5 kv5 dc5 pm5 cd5 ct5 oc6 kv6 dc6 pm6 cd6 ct6 oc7 kv7 dc7 pm7 cd7 ct7 oc8 kv8 dc8 pm8 cd8 ct8 oc9 kv9 dc9 pm9 cd9 ct9 oc10 kv10 dc10 pm10 cd10 ct10 oc11 kv11 dc11 pm11 cd11 ct11 oc12 kv12 dc12 pm12 cd12 ct12 oc13 kv13 dc13 pm13 cd13 ct13 oc14 kv14 dc14 pm14 cd14 ct14 oc15 kv15 dc15 pm15 cd15 ct15 oc16 kv16 dc16 pm16 cd16 ct16 oc17 kv17 dc17 pm17 cd17 ct17 oc18 kv18 dc18 pm18 cd18 ct18 oc19 kv19 dc19 pm19 cd19 ct19 oc20 kv20 dc20 pm20 cd20 ct20 oc21 kv21 dc21 pm21 cd21 ct21 oc22 kv22 dc22 pm22 cd22 ct22 oc23 kv23 dc23 pm23 cd23 ct23 oc24 kv24 dc24 pm24 cd24 ct24 oc25 kv25 dc25 pm25 cd25 ct25 oc26 kv26 dc26 pm26 cd26 ct26 oc27 kv27 dc27 pm27 cd27 ct27 oc28 kv28 dc28 pm28 cd28 ct28 oc29 kv29 dc29 pm29 cd29 ct29 oc30 kv30 dc30 pm30 cd30 ct30 oc31 kv31 dc31 pm31 cd31 ct31 oc32 kv32 dc32 pm32 cd32 ct32 oc33 kv33 dc33 pm33 cd33 ct33 oc34 kv34 dc34 pm34 cd34 ct34 oc35 kv35 dc35 pm35 cd35 ct35 oc36 kv36 dc36 pm36 cd36 ct36 oc37 kv37 dc37 pm37 cd37 ct37 oc38 kv38 dc38 pm38 cd38 ct38 oc39 kv39 dc39 pm39 cd39 ct39 oc40 kv40 dc40 pm40 cd40 ct40 oc41 kv41 dc41 pm41 cd41 ct41 oc42 kv42 dc42 pm42 cd42 ct42 oc43 kv43 dc43 pm43 cd43 ct43 oc44 kv44 dc44 pm44 cd44 ct44 oc45 kv45 dc45 pm45 cd45 ct45 oc46 kv46 dc46 pm46 cd46 ct46 oc47 kv47 dc47 pm47 cd47 ct47 oc48 kv48 dc48 pm48 cd48 ct48 oc49 kv49 dc49 pm49 cd49 ct49 oc50 kv50 dc50 pm50 cd50 ct50 oc51 kv51 dc51 pm51 cd51 ct51 oc52 kv52 dc52 pm52 cd52 ct52 oc53 kv53 dc53 pm53 cd53 ct53 oc54 kv54 dc54 pm54 cd54 ct54 oc55 kv55 dc55 pm55 cd55 ct55 oc56 kv56 dc56 pm56 cd56 ct56 oc57 kv57 dc57 pm57 cd57 ct57 oc58 kv58 dc58 pm58 cd58 ct58 oc59 kv59 dc59 pm59 cd59 ct59 oc60 kv60 dc60 pm60 cd60 ct60 oc61 kv61 dc61 pm61 cd61 ct61 oc62 kv62 dc62 pm62 cd62 ct62 oc63 kv63 dc63 pm63 cd63 ct63 oc64 kv64 dc64 pm64 cd64 ct64 oc65 kv65 dc65 pm65 cd65 ct65 oc66 kv66 dc66 pm66 cd66 ct66 oc67 kv67 dc67 pm67 cd67 ct67 oc68 kv68 dc68 pm68 cd68 ct68 oc69 kv69 dc69 pm69 cd69 ct69 oc70 kv70 dc70 pm70 cd70 ct70 oc71 kv71 dc71 pm71 cd71 ct71 : Value} {t_MOST_MEMBERS t_MOST_KEY t_MOST_MONEY t_MOST_WEIGHT t_MOST_MULTIPLE t_MOST_LOSS t_LAST_LAYER t_HOUSE_KEY t_NO_REFUSAL t_OUT_OF_RANGE t_MEMBER_EXISTS t_MORE_THAN_MOST t_NO_MEMBER t_EVENT_IS_OPEN t_LOSS_OUT_OF_RANGE t_NO_EVENT t_NO_BEARER t_TOO_MANY_MEMBERS t_MARGIN t_FUND t_GAIN t_WEIGHT t_LAST_CHANGE t_FIRST_OF_UNITS t_CHECK tN1 tN2 tA0 tA1 tA2 tA3 tA4 tA5 tA6 tA7 tA8 tA9 tA10 tA11 tA12 tA13 tA14 tA15 tA16 tA17 tA18 tA19 : Tok} {nN nA : Nat}
    (a1 : nsIn K mainGlobals "is_member_key" = some (some (.ref f1)))
    (l1 : K.lookup f1 = some ⟨oc1, od1, .func (fnOf "is_member_key" "is_member_key" (defArgs s_is_member_key) (defBody s_is_member_key) (defScope s_is_member_key) .none kv1 dc1 pm1 an1 cd1 ct1), sl1⟩)
    (c1 : codeIn K cd1 "is_member_key" = true)
    (k1 : keepIn K (.ref f1) = true)
    (a2 : nsIn K mainGlobals "is_bearer_key" = some (some (.ref f2)))
    (l2 : K.lookup f2 = some ⟨oc2, od2, .func (fnOf "is_bearer_key" "is_bearer_key" (defArgs s_is_bearer_key) (defBody s_is_bearer_key) (defScope s_is_bearer_key) .none kv2 dc2 pm2 an2 cd2 ct2), sl2⟩)
    (c2 : codeIn K cd2 "is_bearer_key" = true)
    (k2 : keepIn K (.ref f2) = true)
    (a3 : nsIn K mainGlobals "is_money" = some (some (.ref f3)))
    (l3 : K.lookup f3 = some ⟨oc3, od3, .func (fnOf "is_money" "is_money" (defArgs s_is_money) (defBody s_is_money) (defScope s_is_money) .none kv3 dc3 pm3 an3 cd3 ct3), sl3⟩)
    (c3 : codeIn K cd3 "is_money" = true)
    (k3 : keepIn K (.ref f3) = true)
    (a4 : nsIn K mainGlobals "is_weight" = some (some (.ref f4)))
    (l4 : K.lookup f4 = some ⟨oc4, od4, .func (fnOf "is_weight" "is_weight" (defArgs s_is_weight) (defBody s_is_weight) (defScope s_is_weight) .none kv4 dc4 pm4 an4 cd4 ct4), sl4⟩)
    (c4 : codeIn K cd4 "is_weight" = true)
    (k4 : keepIn K (.ref f4) = true)
    (a5 : nsIn K mainGlobals "is_multiple" = some (some (.ref f5)))
    (l5 : K.lookup f5 = some ⟨oc5, od5, .func (fnOf "is_multiple" "is_multiple" (defArgs s_is_multiple) (defBody s_is_multiple) (defScope s_is_multiple) .none kv5 dc5 pm5 an5 cd5 ct5), sl5⟩)
    (c5 : codeIn K cd5 "is_multiple" = true)
    (k5 : keepIn K (.ref f5) = true)
    (a6 : nsIn K mainGlobals "is_some_units" = some (some (.ref f6)))
    (l6 : K.lookup f6 = some ⟨oc6, od6, .func (fnOf "is_some_units" "is_some_units" (defArgs s_is_some_units) (defBody s_is_some_units) (defScope s_is_some_units) .none kv6 dc6 pm6 an6 cd6 ct6), sl6⟩)
    (c6 : codeIn K cd6 "is_some_units" = true)
    (k6 : keepIn K (.ref f6) = true)
    (a7 : nsIn K mainGlobals "is_loss" = some (some (.ref f7)))
    (l7 : K.lookup f7 = some ⟨oc7, od7, .func (fnOf "is_loss" "is_loss" (defArgs s_is_loss) (defBody s_is_loss) (defScope s_is_loss) .none kv7 dc7 pm7 an7 cd7 ct7), sl7⟩)
    (c7 : codeIn K cd7 "is_loss" = true)
    (k7 : keepIn K (.ref f7) = true)
    (a8 : nsIn K mainGlobals "is_layer" = some (some (.ref f8)))
    (l8 : K.lookup f8 = some ⟨oc8, od8, .func (fnOf "is_layer" "is_layer" (defArgs s_is_layer) (defBody s_is_layer) (defScope s_is_layer) .none kv8 dc8 pm8 an8 cd8 ct8), sl8⟩)
    (c8 : codeIn K cd8 "is_layer" = true)
    (k8 : keepIn K (.ref f8) = true)
    (a9 : nsIn K mainGlobals "is_share_list" = some (some (.ref f9)))
    (l9 : K.lookup f9 = some ⟨oc9, od9, .func (fnOf "is_share_list" "is_share_list" (defArgs s_is_share_list) (defBody s_is_share_list) (defScope s_is_share_list) .none kv9 dc9 pm9 an9 cd9 ct9), sl9⟩)
    (c9 : codeIn K cd9 "is_share_list" = true)
    (k9 : keepIn K (.ref f9) = true)
    (a10 : nsIn K mainGlobals "room_of" = some (some (.ref f10)))
    (l10 : K.lookup f10 = some ⟨oc10, od10, .func (fnOf "room_of" "room_of" (defArgs s_room) (defBody s_room) (defScope s_room) .none kv10 dc10 pm10 an10 cd10 ct10), sl10⟩)
    (c10 : codeIn K cd10 "room_of" = true)
    (k10 : keepIn K (.ref f10) = true)
    (a11 : nsIn K mainGlobals "total_weight" = some (some (.ref f11)))
    (l11 : K.lookup f11 = some ⟨oc11, od11, .func (fnOf "total_weight" "total_weight" (defArgs s_weight) (defBody s_weight) (defScope s_weight) .none kv11 dc11 pm11 an11 cd11 ct11), sl11⟩)
    (c11 : codeIn K cd11 "total_weight" = true)
    (k11 : keepIn K (.ref f11) = true)
    (a12 : nsIn K mainGlobals "filled_by" = some (some (.ref f12)))
    (l12 : K.lookup f12 = some ⟨oc12, od12, .func (fnOf "filled_by" "filled_by" (defArgs s_filled) (defBody s_filled) (defScope s_filled) .none kv12 dc12 pm12 an12 cd12 ct12), sl12⟩)
    (c12 : codeIn K cd12 "filled_by" = true)
    (k12 : keepIn K (.ref f12) = true)
    (a13 : nsIn K mainGlobals "comes_before" = some (some (.ref f13)))
    (l13 : K.lookup f13 = some ⟨oc13, od13, .func (fnOf "comes_before" "comes_before" (defArgs s_before) (defBody s_before) (defScope s_before) .none kv13 dc13 pm13 an13 cd13 ct13), sl13⟩)
    (c13 : codeIn K cd13 "comes_before" = true)
    (k13 : keepIn K (.ref f13) = true)
    (a14 : nsIn K mainGlobals "next_taker" = some (some (.ref f14)))
    (l14 : K.lookup f14 = some ⟨oc14, od14, .func (fnOf "next_taker" "next_taker" (defArgs s_next) (defBody s_next) (defScope s_next) .none kv14 dc14 pm14 an14 cd14 ct14), sl14⟩)
    (c14 : codeIn K cd14 "next_taker" = true)
    (k14 : keepIn K (.ref f14) = true)
    (a15 : nsIn K mainGlobals "give_one_by_one" = some (some (.ref f15)))
    (l15 : K.lookup f15 = some ⟨oc15, od15, .func (fnOf "give_one_by_one" "give_one_by_one" (defArgs s_give) (defBody s_give) (defScope s_give) .none kv15 dc15 pm15 an15 cd15 ct15), sl15⟩)
    (c15 : codeIn K cd15 "give_one_by_one" = true)
    (k15 : keepIn K (.ref f15) = true)
    (a16 : nsIn K mainGlobals "given_by_weight" = some (some (.ref f16)))
    (l16 : K.lookup f16 = some ⟨oc16, od16, .func (fnOf "given_by_weight" "given_by_weight" (defArgs s_given) (defBody s_given) (defScope s_given) .none kv16 dc16 pm16 an16 cd16 ct16), sl16⟩)
    (c16 : codeIn K cd16 "given_by_weight" = true)
    (k16 : keepIn K (.ref f16) = true)
    (a17 : nsIn K mainGlobals "weighted_of" = some (some (.ref f17)))
    (l17 : K.lookup f17 = some ⟨oc17, od17, .func (fnOf "weighted_of" "weighted_of" (defArgs s_weighted_of) (defBody s_weighted_of) (defScope s_weighted_of) .none kv17 dc17 pm17 an17 cd17 ct17), sl17⟩)
    (c17 : codeIn K cd17 "weighted_of" = true)
    (k17 : keepIn K (.ref f17) = true)
    (a18 : nsIn K mainGlobals "with_weight_1" = some (some (.ref f18)))
    (l18 : K.lookup f18 = some ⟨oc18, od18, .func (fnOf "with_weight_1" "with_weight_1" (defArgs s_with_weight_1) (defBody s_with_weight_1) (defScope s_with_weight_1) .none kv18 dc18 pm18 an18 cd18 ct18), sl18⟩)
    (c18 : codeIn K cd18 "with_weight_1" = true)
    (k18 : keepIn K (.ref f18) = true)
    (a19 : nsIn K mainGlobals "weightless_of" = some (some (.ref f19)))
    (l19 : K.lookup f19 = some ⟨oc19, od19, .func (fnOf "weightless_of" "weightless_of" (defArgs s_weightless_of) (defBody s_weightless_of) (defScope s_weightless_of) .none kv19 dc19 pm19 an19 cd19 ct19), sl19⟩)
    (c19 : codeIn K cd19 "weightless_of" = true)
    (k19 : keepIn K (.ref f19) = true)
    (a20 : nsIn K mainGlobals "shares_after" = some (some (.ref f20)))
    (l20 : K.lookup f20 = some ⟨oc20, od20, .func (fnOf "shares_after" "shares_after" (defArgs s_shares) (defBody s_shares) (defScope s_shares) .none kv20 dc20 pm20 an20 cd20 ct20), sl20⟩)
    (c20 : codeIn K cd20 "shares_after" = true)
    (k20 : keepIn K (.ref f20) = true)
    (a21 : nsIn K mainGlobals "taker_of" = some (some (.ref f21)))
    (l21 : K.lookup f21 = some ⟨oc21, od21, .func (fnOf "taker_of" "taker_of" (defArgs s_taker_of) (defBody s_taker_of) (defScope s_taker_of) .none kv21 dc21 pm21 an21 cd21 ct21), sl21⟩)
    (c21 : codeIn K cd21 "taker_of" = true)
    (k21 : keepIn K (.ref f21) = true)
    (a22 : nsIn K mainGlobals "units_up_to" = some (some (.ref f22)))
    (l22 : K.lookup f22 = some ⟨oc22, od22, .func (fnOf "units_up_to" "units_up_to" (defArgs s_units_up_to) (defBody s_units_up_to) (defScope s_units_up_to) .none kv22 dc22 pm22 an22 cd22 ct22), sl22⟩)
    (c22 : codeIn K cd22 "units_up_to" = true)
    (k22 : keepIn K (.ref f22) = true)
    (a23 : nsIn K mainGlobals "place_by_weight" = some (some (.ref f23)))
    (l23 : K.lookup f23 = some ⟨oc23, od23, .func (fnOf "place_by_weight" "place_by_weight" (defArgs s_place_by_weight) (defBody s_place_by_weight) (defScope s_place_by_weight) .none kv23 dc23 pm23 an23 cd23 ct23), sl23⟩)
    (c23 : codeIn K cd23 "place_by_weight" = true)
    (k23 : keepIn K (.ref f23) = true)
    (a24 : nsIn K mainGlobals "place_of" = some (some (.ref f24)))
    (l24 : K.lookup f24 = some ⟨oc24, od24, .func (fnOf "place_of" "place_of" (defArgs s_place_of) (defBody s_place_of) (defScope s_place_of) .none kv24 dc24 pm24 an24 cd24 ct24), sl24⟩)
    (c24 : codeIn K cd24 "place_of" = true)
    (k24 : keepIn K (.ref f24) = true)
    (a25 : nsIn K mainGlobals "other_members" = some (some (.ref f25)))
    (l25 : K.lookup f25 = some ⟨oc25, od25, .func (fnOf "other_members" "other_members" (defArgs s_others) (defBody s_others) (defScope s_others) .none kv25 dc25 pm25 an25 cd25 ct25), sl25⟩)
    (c25 : codeIn K cd25 "other_members" = true)
    (k25 : keepIn K (.ref f25) = true)
    (a26 : nsIn K mainGlobals "most_of_member" = some (some (.ref f26)))
    (l26 : K.lookup f26 = some ⟨oc26, od26, .func (fnOf "most_of_member" "most_of_member" (defArgs s_most) (defBody s_most) (defScope s_most) .none kv26 dc26 pm26 an26 cd26 ct26), sl26⟩)
    (c26 : codeIn K cd26 "most_of_member" = true)
    (k26 : keepIn K (.ref f26) = true)
    (a27 : nsIn K mainGlobals "bearers_of" = some (some (.ref f27)))
    (l27 : K.lookup f27 = some ⟨oc27, od27, .func (fnOf "bearers_of" "bearers_of" (defArgs s_bearers) (defBody s_bearers) (defScope s_bearers) .none kv27 dc27 pm27 an27 cd27 ct27), sl27⟩)
    (c27 : codeIn K cd27 "bearers_of" = true)
    (k27 : keepIn K (.ref f27) = true)
    (a28 : nsIn K mainGlobals "room_at" = some (some (.ref f28)))
    (l28 : K.lookup f28 = some ⟨oc28, od28, .func (fnOf "room_at" "room_at" (defArgs s_roomAt) (defBody s_roomAt) (defScope s_roomAt) .none kv28 dc28 pm28 an28 cd28 ct28), sl28⟩)
    (c28 : codeIn K cd28 "room_at" = true)
    (k28 : keepIn K (.ref f28) = true)
    (a29 : nsIn K mainGlobals "room_ahead" = some (some (.ref f29)))
    (l29 : K.lookup f29 = some ⟨oc29, od29, .func (fnOf "room_ahead" "room_ahead" (defArgs s_ahead) (defBody s_ahead) (defScope s_ahead) .none kv29 dc29 pm29 an29 cd29 ct29), sl29⟩)
    (c29 : codeIn K cd29 "room_ahead" = true)
    (k29 : keepIn K (.ref f29) = true)
    (a30 : nsIn K mainGlobals "borne_at" = some (some (.ref f30)))
    (l30 : K.lookup f30 = some ⟨oc30, od30, .func (fnOf "borne_at" "borne_at" (defArgs s_borne) (defBody s_borne) (defScope s_borne) .none kv30 dc30 pm30 an30 cd30 ct30), sl30⟩)
    (c30 : codeIn K cd30 "borne_at" = true)
    (k30 : keepIn K (.ref f30) = true)
    (a31 : nsIn K mainGlobals "covered_at" = some (some (.ref f31)))
    (l31 : K.lookup f31 = some ⟨oc31, od31, .func (fnOf "covered_at" "covered_at" (defArgs s_covered) (defBody s_covered) (defScope s_covered) .none kv31 dc31 pm31 an31 cd31 ct31), sl31⟩)
    (c31 : codeIn K cd31 "covered_at" = true)
    (k31 : keepIn K (.ref f31) = true)
    (a32 : nsIn K mainGlobals "uncovered_at" = some (some (.ref f32)))
    (l32 : K.lookup f32 = some ⟨oc32, od32, .func (fnOf "uncovered_at" "uncovered_at" (defArgs s_uncovered) (defBody s_uncovered) (defScope s_uncovered) .none kv32 dc32 pm32 an32 cd32 ct32), sl32⟩)
    (c32 : codeIn K cd32 "uncovered_at" = true)
    (k32 : keepIn K (.ref f32) = true)
    (a33 : nsIn K mainGlobals "shares_at" = some (some (.ref f33)))
    (l33 : K.lookup f33 = some ⟨oc33, od33, .func (fnOf "shares_at" "shares_at" (defArgs s_sharesAt) (defBody s_sharesAt) (defScope s_sharesAt) .none kv33 dc33 pm33 an33 cd33 ct33), sl33⟩)
    (c33 : codeIn K cd33 "shares_at" = true)
    (k33 : keepIn K (.ref f33) = true)
    (a34 : nsIn K mainGlobals "bearer_of" = some (some (.ref f34)))
    (l34 : K.lookup f34 = some ⟨oc34, od34, .func (fnOf "bearer_of" "bearer_of" (defArgs s_bearer_of) (defBody s_bearer_of) (defScope s_bearer_of) .none kv34 dc34 pm34 an34 cd34 ct34), sl34⟩)
    (c34 : codeIn K cd34 "bearer_of" = true)
    (k34 : keepIn K (.ref f34) = true)
    (a35 : nsIn K mainGlobals "share_at" = some (some (.ref f35)))
    (l35 : K.lookup f35 = some ⟨oc35, od35, .func (fnOf "share_at" "share_at" (defArgs s_share_at) (defBody s_share_at) (defScope s_share_at) .none kv35 dc35 pm35 an35 cd35 ct35), sl35⟩)
    (c35 : codeIn K cd35 "share_at" = true)
    (k35 : keepIn K (.ref f35) = true)
    (a36 : nsIn K mainGlobals "taker_of_unit" = some (some (.ref f36)))
    (l36 : K.lookup f36 = some ⟨oc36, od36, .func (fnOf "taker_of_unit" "taker_of_unit" (defArgs s_taker_of_unit) (defBody s_taker_of_unit) (defScope s_taker_of_unit) .none kv36 dc36 pm36 an36 cd36 ct36), sl36⟩)
    (c36 : codeIn K cd36 "taker_of_unit" = true)
    (k36 : keepIn K (.ref f36) = true)
    (a37 : nsIn K mainGlobals "event_refusal" = some (some (.ref f37)))
    (l37 : K.lookup f37 = some ⟨oc37, od37, .func (fnOf "event_refusal" "event_refusal" (defArgs s_event_refusal) (defBody s_event_refusal) (defScope s_event_refusal) .none kv37 dc37 pm37 an37 cd37 ct37), sl37⟩)
    (c37 : codeIn K cd37 "event_refusal" = true)
    (k37 : keepIn K (.ref f37) = true)
    (a38 : nsIn K mainGlobals "bearer_refusal" = some (some (.ref f38)))
    (l38 : K.lookup f38 = some ⟨oc38, od38, .func (fnOf "bearer_refusal" "bearer_refusal" (defArgs s_bearer_refusal) (defBody s_bearer_refusal) (defScope s_bearer_refusal) .none kv38 dc38 pm38 an38 cd38 ct38), sl38⟩)
    (c38 : codeIn K cd38 "bearer_refusal" = true)
    (k38 : keepIn K (.ref f38) = true)
    (a39 : nsIn K mainGlobals "add_member" = some (some (.ref f39)))
    (l39 : K.lookup f39 = some ⟨oc39, od39, .func (fnOf "add_member" "add_member" (defArgs s_add_member) (defBody s_add_member) (defScope s_add_member) .none kv39 dc39 pm39 an39 cd39 ct39), sl39⟩)
    (c39 : codeIn K cd39 "add_member" = true)
    (k39 : keepIn K (.ref f39) = true)
    (a40 : nsIn K mainGlobals "set_house" = some (some (.ref f40)))
    (l40 : K.lookup f40 = some ⟨oc40, od40, .func (fnOf "set_house" "set_house" (defArgs s_set_house) (defBody s_set_house) (defScope s_set_house) .none kv40 dc40 pm40 an40 cd40 ct40), sl40⟩)
    (c40 : codeIn K cd40 "set_house" = true)
    (k40 : keepIn K (.ref f40) = true)
    (a41 : nsIn K mainGlobals "is_change" = some (some (.ref f41)))
    (l41 : K.lookup f41 = some ⟨oc41, od41, .func (fnOf "is_change" "is_change" (defArgs s_is_change) (defBody s_is_change) (defScope s_is_change) .none kv41 dc41 pm41 an41 cd41 ct41), sl41⟩)
    (c41 : codeIn K cd41 "is_change" = true)
    (k41 : keepIn K (.ref f41) = true)
    (a42 : nsIn K mainGlobals "set_value" = some (some (.ref f42)))
    (l42 : K.lookup f42 = some ⟨oc42, od42, .func (fnOf "set_value" "set_value" (defArgs s_set_value) (defBody s_set_value) (defScope s_set_value) .none kv42 dc42 pm42 an42 cd42 ct42), sl42⟩)
    (c42 : codeIn K cd42 "set_value" = true)
    (k42 : keepIn K (.ref f42) = true)
    (a43 : nsIn K mainGlobals "change_member" = some (some (.ref f43)))
    (l43 : K.lookup f43 = some ⟨oc43, od43, .func (fnOf "change_member" "change_member" (defArgs s_change_member) (defBody s_change_member) (defScope s_change_member) .none kv43 dc43 pm43 an43 cd43 ct43), sl43⟩)
    (c43 : codeIn K cd43 "change_member" = true)
    (k43 : keepIn K (.ref f43) = true)
    (a44 : nsIn K mainGlobals "open_event" = some (some (.ref f44)))
    (l44 : K.lookup f44 = some ⟨oc44, od44, .func (fnOf "open_event" "open_event" (defArgs s_open_event) (defBody s_open_event) (defScope s_open_event) .none kv44 dc44 pm44 an44 cd44 ct44), sl44⟩)
    (c44 : codeIn K cd44 "open_event" = true)
    (k44 : keepIn K (.ref f44) = true)
    (a45 : nsIn K mainGlobals "lose_units" = some (some (.ref f45)))
    (l45 : K.lookup f45 = some ⟨oc45, od45, .func (fnOf "lose_units" "lose_units" (defArgs s_lose_units) (defBody s_lose_units) (defScope s_lose_units) .none kv45 dc45 pm45 an45 cd45 ct45), sl45⟩)
    (c45 : codeIn K cd45 "lose_units" = true)
    (k45 : keepIn K (.ref f45) = true)
    (a46 : nsIn K mainGlobals "recover_units" = some (some (.ref f46)))
    (l46 : K.lookup f46 = some ⟨oc46, od46, .func (fnOf "recover_units" "recover_units" (defArgs s_recover_units) (defBody s_recover_units) (defScope s_recover_units) .none kv46 dc46 pm46 an46 cd46 ct46), sl46⟩)
    (c46 : codeIn K cd46 "recover_units" = true)
    (k46 : keepIn K (.ref f46) = true)
    (a47 : nsIn K mainGlobals "settle_members_and_pieces" = some (some (.ref f47)))
    (l47 : K.lookup f47 = some ⟨oc47, od47, .func (fnOf "settle_members_and_pieces" "settle_members_and_pieces" (defArgs s_settle_members_and_pieces) (defBody s_settle_members_and_pieces) (defScope s_settle_members_and_pieces) .none kv47 dc47 pm47 an47 cd47 ct47), sl47⟩)
    (c47 : codeIn K cd47 "settle_members_and_pieces" = true)
    (k47 : keepIn K (.ref f47) = true)
    (a48 : nsIn K mainGlobals "close_event" = some (some (.ref f48)))
    (l48 : K.lookup f48 = some ⟨oc48, od48, .func (fnOf "close_event" "close_event" (defArgs s_close_event) (defBody s_close_event) (defScope s_close_event) .none kv48 dc48 pm48 an48 cd48 ct48), sl48⟩)
    (c48 : codeIn K cd48 "close_event" = true)
    (k48 : keepIn K (.ref f48) = true)
    (a49 : nsIn K mainGlobals "who_view" = some (some (.ref f49)))
    (l49 : K.lookup f49 = some ⟨oc49, od49, .func (fnOf "who_view" "who_view" (defArgs s_who_view) (defBody s_who_view) (defScope s_who_view) .none kv49 dc49 pm49 an49 cd49 ct49), sl49⟩)
    (c49 : codeIn K cd49 "who_view" = true)
    (k49 : keepIn K (.ref f49) = true)
    (a50 : nsIn K mainGlobals "next_view" = some (some (.ref f50)))
    (l50 : K.lookup f50 = some ⟨oc50, od50, .func (fnOf "next_view" "next_view" (defArgs s_next_view) (defBody s_next_view) (defScope s_next_view) .none kv50 dc50 pm50 an50 cd50 ct50), sl50⟩)
    (c50 : codeIn K cd50 "next_view" = true)
    (k50 : keepIn K (.ref f50) = true)
    (a51 : nsIn K mainGlobals "at_view" = some (some (.ref f51)))
    (l51 : K.lookup f51 = some ⟨oc51, od51, .func (fnOf "at_view" "at_view" (defArgs s_at_view) (defBody s_at_view) (defScope s_at_view) .none kv51 dc51 pm51 an51 cd51 ct51), sl51⟩)
    (c51 : codeIn K cd51 "at_view" = true)
    (k51 : keepIn K (.ref f51) = true)
    (a52 : nsIn K mainGlobals "between_view" = some (some (.ref f52)))
    (l52 : K.lookup f52 = some ⟨oc52, od52, .func (fnOf "between_view" "between_view" (defArgs s_between_view) (defBody s_between_view) (defScope s_between_view) .none kv52 dc52 pm52 an52 cd52 ct52), sl52⟩)
    (c52 : codeIn K cd52 "between_view" = true)
    (k52 : keepIn K (.ref f52) = true)
    (a53 : nsIn K mainGlobals "until_view" = some (some (.ref f53)))
    (l53 : K.lookup f53 = some ⟨oc53, od53, .func (fnOf "until_view" "until_view" (defArgs s_until_view) (defBody s_until_view) (defScope s_until_view) .none kv53 dc53 pm53 an53 cd53 ct53), sl53⟩)
    (c53 : codeIn K cd53 "until_view" = true)
    (k53 : keepIn K (.ref f53) = true)
    (a54 : nsIn K mainGlobals "check_view" = some (some (.ref f54)))
    (l54 : K.lookup f54 = some ⟨oc54, od54, .func (fnOf "check_view" "check_view" (defArgs s_check_view) (defBody s_check_view) (defScope s_check_view) .none kv54 dc54 pm54 an54 cd54 ct54), sl54⟩)
    (c54 : codeIn K cd54 "check_view" = true)
    (k54 : keepIn K (.ref f54) = true)
    (a55 : nsIn K mainGlobals "layer_view" = some (some (.ref f55)))
    (l55 : K.lookup f55 = some ⟨oc55, od55, .func (fnOf "layer_view" "layer_view" (defArgs s_layer_view) (defBody s_layer_view) (defScope s_layer_view) .none kv55 dc55 pm55 an55 cd55 ct55), sl55⟩)
    (c55 : codeIn K cd55 "layer_view" = true)
    (k55 : keepIn K (.ref f55) = true)
    (a56 : nsIn K mainGlobals "share_view" = some (some (.ref f56)))
    (l56 : K.lookup f56 = some ⟨oc56, od56, .func (fnOf "share_view" "share_view" (defArgs s_share_view) (defBody s_share_view) (defScope s_share_view) .none kv56 dc56 pm56 an56 cd56 ct56), sl56⟩)
    (c56 : codeIn K cd56 "share_view" = true)
    (k56 : keepIn K (.ref f56) = true)
    (a57 : nsIn K mainGlobals "shares_view" = some (some (.ref f57)))
    (l57 : K.lookup f57 = some ⟨oc57, od57, .func (fnOf "shares_view" "shares_view" (defArgs s_shares_view) (defBody s_shares_view) (defScope s_shares_view) .none kv57 dc57 pm57 an57 cd57 ct57), sl57⟩)
    (c57 : codeIn K cd57 "shares_view" = true)
    (k57 : keepIn K (.ref f57) = true)
    (a58 : nsIn K mainGlobals "person_view" = some (some (.ref f58)))
    (l58 : K.lookup f58 = some ⟨oc58, od58, .func (fnOf "person_view" "person_view" (defArgs s_person_view) (defBody s_person_view) (defScope s_person_view) .none kv58 dc58 pm58 an58 cd58 ct58), sl58⟩)
    (c58 : codeIn K cd58 "person_view" = true)
    (k58 : keepIn K (.ref f58) = true)
    (a59 : nsIn K mainGlobals "fair_share" = some (some (.ref f59)))
    (l59 : K.lookup f59 = some ⟨oc59, od59, .func (fnOf "fair_share" "fair_share" (defArgs s_fair_share) (defBody s_fair_share) (defScope s_fair_share) .none kv59 dc59 pm59 an59 cd59 ct59), sl59⟩)
    (c59 : codeIn K cd59 "fair_share" = true)
    (k59 : keepIn K (.ref f59) = true)
    (a60 : nsIn K mainGlobals "fair_view" = some (some (.ref f60)))
    (l60 : K.lookup f60 = some ⟨oc60, od60, .func (fnOf "fair_view" "fair_view" (defArgs s_fair_view) (defBody s_fair_view) (defScope s_fair_view) .none kv60 dc60 pm60 an60 cd60 ct60), sl60⟩)
    (c60 : codeIn K cd60 "fair_view" = true)
    (k60 : keepIn K (.ref f60) = true)
    (a61 : nsIn K mainGlobals "heaps_view" = some (some (.ref f61)))
    (l61 : K.lookup f61 = some ⟨oc61, od61, .func (fnOf "heaps_view" "heaps_view" (defArgs s_heaps_view) (defBody s_heaps_view) (defScope s_heaps_view) .none kv61 dc61 pm61 an61 cd61 ct61), sl61⟩)
    (c61 : codeIn K cd61 "heaps_view" = true)
    (k61 : keepIn K (.ref f61) = true)
    (a62 : nsIn K mainGlobals "members_view" = some (some (.ref f62)))
    (l62 : K.lookup f62 = some ⟨oc62, od62, .func (fnOf "members_view" "members_view" (defArgs s_members_view) (defBody s_members_view) (defScope s_members_view) .none kv62 dc62 pm62 an62 cd62 ct62), sl62⟩)
    (c62 : codeIn K cd62 "members_view" = true)
    (k62 : keepIn K (.ref f62) = true)
    (a63 : nsIn K mainGlobals "answer_change" = some (some (.ref f63)))
    (l63 : K.lookup f63 = some ⟨oc63, od63, .func (fnOf "answer_change" "answer_change" (defArgs s_answer_change) (defBody s_answer_change) (defScope s_answer_change) .none kv63 dc63 pm63 an63 cd63 ct63), sl63⟩)
    (c63 : codeIn K cd63 "answer_change" = true)
    (k63 : keepIn K (.ref f63) = true)
    (a64 : nsIn K mainGlobals "answer_unit_view" = some (some (.ref f64)))
    (l64 : K.lookup f64 = some ⟨oc64, od64, .func (fnOf "answer_unit_view" "answer_unit_view" (defArgs s_answer_unit_view) (defBody s_answer_unit_view) (defScope s_answer_unit_view) .none kv64 dc64 pm64 an64 cd64 ct64), sl64⟩)
    (c64 : codeIn K cd64 "answer_unit_view" = true)
    (k64 : keepIn K (.ref f64) = true)
    (a65 : nsIn K mainGlobals "answer_view" = some (some (.ref f65)))
    (l65 : K.lookup f65 = some ⟨oc65, od65, .func (fnOf "answer_view" "answer_view" (defArgs s_answer_view) (defBody s_answer_view) (defScope s_answer_view) .none kv65 dc65 pm65 an65 cd65 ct65), sl65⟩)
    (c65 : codeIn K cd65 "answer_view" = true)
    (k65 : keepIn K (.ref f65) = true)
    (a66 : nsIn K mainGlobals "answer_call" = some (some (.ref f66)))
    (l66 : K.lookup f66 = some ⟨oc66, od66, .func (fnOf "answer_call" "answer_call" (defArgs s_answer_call) (defBody s_answer_call) (defScope s_answer_call) .none kv66 dc66 pm66 an66 cd66 ct66), sl66⟩)
    (c66 : codeIn K cd66 "answer_call" = true)
    (k66 : keepIn K (.ref f66) = true)
    (a67 : nsIn K mainGlobals "end_of_call" = some (some (.ref f67)))
    (l67 : K.lookup f67 = some ⟨oc67, od67, .func (fnOf "end_of_call" "end_of_call" (defArgs s_end_of_call) (defBody s_end_of_call) (defScope s_end_of_call) .none kv67 dc67 pm67 an67 cd67 ct67), sl67⟩)
    (c67 : codeIn K cd67 "end_of_call" = true)
    (k67 : keepIn K (.ref f67) = true)
    (a68 : nsIn K mainGlobals "answers" = some (some (.ref f68)))
    (l68 : K.lookup f68 = some ⟨oc68, od68, .func (fnOf "answers" "answers" (defArgs s_answers) (defBody s_answers) (defScope s_answers) .none kv68 dc68 pm68 an68 cd68 ct68), sl68⟩)
    (c68 : codeIn K cd68 "answers" = true)
    (k68 : keepIn K (.ref f68) = true)
    (z69 : nsIn K mainGlobals "Bearer" = some (some (.ref C)))
    (a69 : findIn K (.ref C) "__init__" = some (some (.ref f69)))
    (i69 : isFn K (.ref f69) = true)
    (l69 : K.lookup f69 = some ⟨oc69, od69, .func (fnOf "__init__" "Bearer.__init__" (defArgs s_initB) (defBody s_initB) (defScope s_initB) .none kv69 dc69 pm69 an69 cd69 ct69), sl69⟩)
    (c69 : codeIn K cd69 "Bearer.__init__" = true)
    (k69 : keepIn K (.ref f69) = true)
    (pg69 : plainGet K C Str.empty = true)
    (hd69 : hasDictIn K C = true)
    (po69 : plainOver K C = true)
    (sa69 : findIn K (.ref C) "__setattr__" = some (some (.builtin "object.__setattr__")))
    (mk69 : makesIn K C = true)
    (kc69 : keepIn K (.ref C) = true)
    (n69_0 : findIn K (.ref C) "key" = some none)
    (n69_1 : findIn K (.ref C) "weight" = some none)
    (n69_2 : findIn K (.ref C) "most" = some none)
    (z70 : nsIn K mainGlobals "Member" = some (some (.ref CM)))
    (a70 : findIn K (.ref CM) "__init__" = some (some (.ref f70)))
    (i70 : isFn K (.ref f70) = true)
    (l70 : K.lookup f70 = some ⟨oc70, od70, .func (fnOf "__init__" "Member.__init__" (defArgs s_Member___init__) (defBody s_Member___init__) (defScope s_Member___init__) .none kv70 dc70 pm70 an70 cd70 ct70), sl70⟩)
    (c70 : codeIn K cd70 "Member.__init__" = true)
    (k70 : keepIn K (.ref f70) = true)
    (pg70 : plainGet K CM Str.empty = true)
    (hd70 : hasDictIn K CM = true)
    (po70 : plainOver K CM = true)
    (sa70 : findIn K (.ref CM) "__setattr__" = some (some (.builtin "object.__setattr__")))
    (mk70 : makesIn K CM = true)
    (kc70 : keepIn K (.ref CM) = true)
    (n70_0 : findIn K (.ref CM) "key" = some none)
    (n70_1 : findIn K (.ref CM) "margin" = some none)
    (n70_2 : findIn K (.ref CM) "fund" = some none)
    (n70_3 : findIn K (.ref CM) "gain" = some none)
    (n70_4 : findIn K (.ref CM) "weight" = some none)
    (z71 : nsIn K mainGlobals "House" = some (some (.ref CH)))
    (a71 : findIn K (.ref CH) "__init__" = some (some (.ref f71)))
    (i71 : isFn K (.ref f71) = true)
    (l71 : K.lookup f71 = some ⟨oc71, od71, .func (fnOf "__init__" "House.__init__" (defArgs s_House___init__) (defBody s_House___init__) (defScope s_House___init__) .none kv71 dc71 pm71 an71 cd71 ct71), sl71⟩)
    (c71 : codeIn K cd71 "House.__init__" = true)
    (k71 : keepIn K (.ref f71) = true)
    (pg71 : plainGet K CH Str.empty = true)
    (hd71 : hasDictIn K CH = true)
    (po71 : plainOver K CH = true)
    (sa71 : findIn K (.ref CH) "__setattr__" = some (some (.builtin "object.__setattr__")))
    (mk71 : makesIn K CH = true)
    (kc71 : keepIn K (.ref CH) = true)
    (n71_0 : findIn K (.ref CH) "members" = some none)
    (n71_1 : findIn K (.ref CH) "first" = some none)
    (n71_2 : findIn K (.ref CH) "last" = some none)
    (n71_3 : findIn K (.ref CH) "multiple" = some none)
    (n71_4 : findIn K (.ref CH) "called" = some none)
    (n71_5 : findIn K (.ref CH) "unpaid" = some none)
    (n71_6 : findIn K (.ref CH) "defaulter" = some none)
    (n71_7 : findIn K (.ref CH) "loss" = some none)
    (b_len : nsIn K mainGlobals "len" = some none)
    (b_sum : nsIn K mainGlobals "sum" = some none)
    (b_min : nsIn K mainGlobals "min" = some none)
    (b_max : nsIn K mainGlobals "max" = some none)
    (b_dict : nsIn K mainGlobals "dict" = some none)
    (b_range : nsIn K mainGlobals "range" = some none)
    (b_sorted : nsIn K mainGlobals "sorted" = some none)
    (b_all : nsIn K mainGlobals "all" = some none)
    (b_list : nsIn K mainGlobals "list" = some none)
    (c_MOST_MEMBERS : nsIn K mainGlobals "MOST_MEMBERS" = some (some (.int 12 t_MOST_MEMBERS)))
    (c_MOST_KEY : nsIn K mainGlobals "MOST_KEY" = some (some (.int 1000000000 t_MOST_KEY)))
    (c_MOST_MONEY : nsIn K mainGlobals "MOST_MONEY" = some (some (.int 1000000000000 t_MOST_MONEY)))
    (c_MOST_WEIGHT : nsIn K mainGlobals "MOST_WEIGHT" = some (some (.int 1000000 t_MOST_WEIGHT)))
    (c_MOST_MULTIPLE : nsIn K mainGlobals "MOST_MULTIPLE" = some (some (.int 10 t_MOST_MULTIPLE)))
    (c_MOST_LOSS : nsIn K mainGlobals "MOST_LOSS" = some (some (.int 1000000000000000 t_MOST_LOSS)))
    (c_LAST_LAYER : nsIn K mainGlobals "LAST_LAYER" = some (some (.int 7 t_LAST_LAYER)))
    (c_HOUSE_KEY : nsIn K mainGlobals "HOUSE_KEY" = some (some (.int 0 t_HOUSE_KEY)))
    (c_NO_REFUSAL : nsIn K mainGlobals "NO_REFUSAL" = some (some (.int 0 t_NO_REFUSAL)))
    (c_OUT_OF_RANGE : nsIn K mainGlobals "OUT_OF_RANGE" = some (some (.int (-1) t_OUT_OF_RANGE)))
    (c_MEMBER_EXISTS : nsIn K mainGlobals "MEMBER_EXISTS" = some (some (.int (-2) t_MEMBER_EXISTS)))
    (c_MORE_THAN_MOST : nsIn K mainGlobals "MORE_THAN_MOST" = some (some (.int (-3) t_MORE_THAN_MOST)))
    (c_NO_MEMBER : nsIn K mainGlobals "NO_MEMBER" = some (some (.int (-4) t_NO_MEMBER)))
    (c_EVENT_IS_OPEN : nsIn K mainGlobals "EVENT_IS_OPEN" = some (some (.int (-5) t_EVENT_IS_OPEN)))
    (c_LOSS_OUT_OF_RANGE : nsIn K mainGlobals "LOSS_OUT_OF_RANGE" = some (some (.int (-6) t_LOSS_OUT_OF_RANGE)))
    (c_NO_EVENT : nsIn K mainGlobals "NO_EVENT" = some (some (.int (-7) t_NO_EVENT)))
    (c_NO_BEARER : nsIn K mainGlobals "NO_BEARER" = some (some (.int (-8) t_NO_BEARER)))
    (c_TOO_MANY_MEMBERS : nsIn K mainGlobals "TOO_MANY_MEMBERS" = some (some (.int (-9) t_TOO_MANY_MEMBERS)))
    (c_MARGIN : nsIn K mainGlobals "MARGIN" = some (some (.int 1 t_MARGIN)))
    (c_FUND : nsIn K mainGlobals "FUND" = some (some (.int 2 t_FUND)))
    (c_GAIN : nsIn K mainGlobals "GAIN" = some (some (.int 3 t_GAIN)))
    (c_WEIGHT : nsIn K mainGlobals "WEIGHT" = some (some (.int 4 t_WEIGHT)))
    (c_LAST_CHANGE : nsIn K mainGlobals "LAST_CHANGE" = some (some (.int 6 t_LAST_CHANGE)))
    (c_FIRST_OF_UNITS : nsIn K mainGlobals "FIRST_OF_UNITS" = some (some (.int 11 t_FIRST_OF_UNITS)))
    (c_CHECK : nsIn K mainGlobals "CHECK" = some (some (.int 16 t_CHECK)))
    (aN : nsIn K mainGlobals "NOBODY" = some (some (.ref nob)))
    (lN : K.lookup nob = some ⟨.type "tuple", dN, .seq #[.int 8 tN1, .int 0 tN2] nN, sN⟩)
    (aA : nsIn K mainGlobals "ARGUMENT_COUNTS" = some (some (.ref cnt)))
    (lA : K.lookup cnt = some ⟨.type "tuple", dA, .seq #[.int 5 tA0, .int 3 tA1, .int 3 tA2, .int 1 tA3, .int 1 tA4, .int 1 tA5, .int 0 tA6, .int 1 tA7, .int 2 tA8, .int 1 tA9, .int 1 tA10, .int 1 tA11, .int 3 tA12, .int 3 tA13, .int 0 tA14, .int 4 tA15, .int 3 tA16, .int 0 tA17, .int 0 tA18, .int 2 tA19] nA, sA⟩)
    : ∃ fd : FuncData, (∀ (s : Shared) (us : List Value), us.length = (["calls"] : List Str).length → BindsTo s fd ⟨us, []⟩ ((["calls"] : List Str).zip us)) ∧ ∀ base : Heap, K.In base → base.Ns mainGlobals mg → FnOk P w K mg base CX0 12 fa fd ["calls"] (spAnswers K) := by
  have e := hfa.symm.trans (PySem.W.mg_of X G a68)
  cases e
  have B : Bt mg := ⟨PySem.W.mg_none_of X G b_len, PySem.W.mg_none_of X G b_sum, PySem.W.mg_none_of X G b_min, PySem.W.mg_none_of X G b_max, PySem.W.mg_none_of X G b_dict, PySem.W.mg_none_of X G b_range, PySem.W.mg_none_of X G b_sorted, PySem.W.mg_none_of X G b_all, PySem.W.mg_none_of X G b_list⟩
  have T : Tn mg := ⟨num_mk X G c_MOST_MEMBERS, num_mk X G c_MOST_KEY, num_mk X G c_MOST_MONEY, num_mk X G c_MOST_WEIGHT, num_mk X G c_MOST_MULTIPLE, num_mk X G c_MOST_LOSS, num_mk X G c_LAST_LAYER, num_mk X G c_HOUSE_KEY, num_mk X G c_NO_REFUSAL, num_mk X G c_OUT_OF_RANGE, num_mk X G c_MEMBER_EXISTS, num_mk X G c_MORE_THAN_MOST, num_mk X G c_NO_MEMBER, num_mk X G c_EVENT_IS_OPEN, num_mk X G c_LOSS_OUT_OF_RANGE, num_mk X G c_NO_EVENT, num_mk X G c_NO_BEARER, num_mk X G c_TOO_MANY_MEMBERS, num_mk X G c_MARGIN, num_mk X G c_FUND, num_mk X G c_GAIN, num_mk X G c_WEIGHT, num_mk X G c_LAST_CHANGE, num_mk X G c_FIRST_OF_UNITS, num_mk X G c_CHECK⟩
  have Gt : Tg K mg nob cnt := ⟨PySem.W.mg_of X G aN, PySem.W.mg_of X G aA, tup_mk lN rfl rfl (by show 2 ≤ sizeLine; decide) (.cons ⟨_, rfl⟩ (.cons ⟨_, rfl⟩ (.nil))), tup_mk lA rfl rfl (by show 20 ≤ sizeLine; decide) (.cons ⟨_, rfl⟩ (.cons ⟨_, rfl⟩ (.cons ⟨_, rfl⟩ (.cons ⟨_, rfl⟩ (.cons ⟨_, rfl⟩ (.cons ⟨_, rfl⟩ (.cons ⟨_, rfl⟩ (.cons ⟨_, rfl⟩ (.cons ⟨_, rfl⟩ (.cons ⟨_, rfl⟩ (.cons ⟨_, rfl⟩ (.cons ⟨_, rfl⟩ (.cons ⟨_, rfl⟩ (.cons ⟨_, rfl⟩ (.cons ⟨_, rfl⟩ (.cons ⟨_, rfl⟩ (.cons ⟨_, rfl⟩ (.cons ⟨_, rfl⟩ (.cons ⟨_, rfl⟩ (.cons ⟨_, rfl⟩ (.nil)))))))))))))))))))))⟩
  have TBe : TB K C := ⟨⟨pg69, hd69, po69, sa69⟩, n69_0, n69_1, n69_2⟩
  have E_Bearer : ExC K mg "Bearer" "Bearer.__init__" C s_initB ["self", "key", "weight", "most"] := exC_mk X G b_Bearer z69 a69 i69 l69 c69 k69 mk69 kc69
  have TMe : TM K CM := ⟨⟨pg70, hd70, po70, sa70⟩, n70_0, n70_1, n70_2, n70_3, n70_4⟩
  have E_Member : ExC K mg "Member" "Member.__init__" CM s_Member___init__ ["self", "key", "margin", "fund", "gain", "weight"] := exC_mk X G b_Member z70 a70 i70 l70 c70 k70 mk70 kc70
  have THo : TH K CH := ⟨⟨pg71, hd71, po71, sa71⟩, n71_0, n71_1, n71_2, n71_3, n71_4, n71_5, n71_6, n71_7⟩
  have E_House : ExC K mg "House" "House.__init__" CH s_House___init__ ["self"] := exC_mk X G b_House z71 a71 i71 l71 c71 k71 mk71 kc71
  have E_is_member_key : Ex K mg "is_member_key" s_is_member_key ["key"] := ex_mk X G b_is_member_key a1 l1 c1 k1
  have E_is_bearer_key : Ex K mg "is_bearer_key" s_is_bearer_key ["key"] := ex_mk X G b_is_bearer_key a2 l2 c2 k2
  have E_is_money : Ex K mg "is_money" s_is_money ["amount"] := ex_mk X G b_is_money a3 l3 c3 k3
  have E_is_weight : Ex K mg "is_weight" s_is_weight ["amount"] := ex_mk X G b_is_weight a4 l4 c4 k4
  have E_is_multiple : Ex K mg "is_multiple" s_is_multiple ["amount"] := ex_mk X G b_is_multiple a5 l5 c5 k5
  have E_is_some_units : Ex K mg "is_some_units" s_is_some_units ["amount"] := ex_mk X G b_is_some_units a6 l6 c6 k6
  have E_is_loss : Ex K mg "is_loss" s_is_loss ["amount"] := ex_mk X G b_is_loss a7 l7 c7 k7
  have E_is_layer : Ex K mg "is_layer" s_is_layer ["k"] := ex_mk X G b_is_layer a8 l8 c8 k8
  have E_is_share_list : Ex K mg "is_share_list" s_is_share_list ["given"] := ex_mk X G b_is_share_list a9 l9 c9 k9
  have E_room_of : Ex K mg "room_of" s_room ["bearers"] := ex_mk X G b_room_of a10 l10 c10 k10
  have E_total_weight : Ex K mg "total_weight" s_weight ["bearers"] := ex_mk X G b_total_weight a11 l11 c11 k11
  have E_filled_by : Ex K mg "filled_by" s_filled ["bearers", "units"] := ex_mk X G b_filled_by a12 l12 c12 k12
  have E_comes_before : Ex K mg "comes_before" s_before ["one", "other", "given"] := ex_mk X G b_comes_before a13 l13 c13 k13
  have E_next_taker : Ex K mg "next_taker" s_next ["bearers", "given"] := ex_mk X G b_next_taker a14 l14 c14 k14
  have E_give_one_by_one : Ex K mg "give_one_by_one" s_give ["bearers", "given", "units"] := ex_mk X G b_give_one_by_one a15 l15 c15 k15
  have E_given_by_weight : Ex K mg "given_by_weight" s_given ["bearers", "units"] := ex_mk X G b_given_by_weight a16 l16 c16 k16
  have E_weighted_of : Ex K mg "weighted_of" s_weighted_of ["bearers"] := ex_mk X G b_weighted_of a17 l17 c17 k17
  have E_with_weight_1 : Ex K mg "with_weight_1" s_with_weight_1 ["bearer"] := ex_mk X G b_with_weight_1 a18 l18 c18 k18
  have E_weightless_of : Ex K mg "weightless_of" s_weightless_of ["bearers"] := ex_mk X G b_weightless_of a19 l19 c19 k19
  have E_shares_after : Ex K mg "shares_after" s_shares ["bearers", "units"] := ex_mk X G b_shares_after a20 l20 c20 k20
  have E_taker_of : Ex K mg "taker_of" s_taker_of ["bearers", "unit"] := ex_mk X G b_taker_of a21 l21 c21 k21
  have E_units_up_to : Ex K mg "units_up_to" s_units_up_to ["other", "bearer", "share"] := ex_mk X G b_units_up_to a22 l22 c22 k22
  have E_place_by_weight : Ex K mg "place_by_weight" s_place_by_weight ["bearers", "bearer", "share"] := ex_mk X G b_place_by_weight a23 l23 c23 k23
  have E_place_of : Ex K mg "place_of" s_place_of ["bearers", "bearer", "share"] := ex_mk X G b_place_of a24 l24 c24 k24
  have E_other_members : Ex K mg "other_members" s_others ["house"] := ex_mk X G b_other_members a25 l25 c25 k25
  have E_most_of_member : Ex K mg "most_of_member" s_most ["house", "k", "member"] := ex_mk X G b_most_of_member a26 l26 c26 k26
  have E_bearers_of : Ex K mg "bearers_of" s_bearers ["house", "k"] := ex_mk X G b_bearers_of a27 l27 c27 k27
  have E_room_at : Ex K mg "room_at" s_roomAt ["house", "k"] := ex_mk X G b_room_at a28 l28 c28 k28
  have E_room_ahead : Ex K mg "room_ahead" s_ahead ["house", "k"] := ex_mk X G b_room_ahead a29 l29 c29 k29
  have E_borne_at : Ex K mg "borne_at" s_borne ["house", "k", "loss"] := ex_mk X G b_borne_at a30 l30 c30 k30
  have E_covered_at : Ex K mg "covered_at" s_covered ["house", "loss"] := ex_mk X G b_covered_at a31 l31 c31 k31
  have E_uncovered_at : Ex K mg "uncovered_at" s_uncovered ["house", "loss"] := ex_mk X G b_uncovered_at a32 l32 c32 k32
  have E_shares_at : Ex K mg "shares_at" s_sharesAt ["house", "k", "loss"] := ex_mk X G b_shares_at a33 l33 c33 k33
  have E_bearer_of : Ex K mg "bearer_of" s_bearer_of ["house", "k", "key"] := ex_mk X G b_bearer_of a34 l34 c34 k34
  have E_share_at : Ex K mg "share_at" s_share_at ["house", "k", "key", "loss"] := ex_mk X G b_share_at a35 l35 c35 k35
  have E_taker_of_unit : Ex K mg "taker_of_unit" s_taker_of_unit ["house", "unit"] := ex_mk X G b_taker_of_unit a36 l36 c36 k36
  have E_event_refusal : Ex K mg "event_refusal" s_event_refusal ["house", "in_range"] := ex_mk X G b_event_refusal a37 l37 c37 k37
  have E_bearer_refusal : Ex K mg "bearer_refusal" s_bearer_refusal ["house", "in_range", "k", "key"] := ex_mk X G b_bearer_refusal a38 l38 c38 k38
  have E_add_member : Ex K mg "add_member" s_add_member ["house", "key", "margin", "fund", "gain", "weight"] := ex_mk X G b_add_member a39 l39 c39 k39
  have E_set_house : Ex K mg "set_house" s_set_house ["house", "first", "last", "multiple"] := ex_mk X G b_set_house a40 l40 c40 k40
  have E_is_change : Ex K mg "is_change" s_is_change ["what", "amount"] := ex_mk X G b_is_change a41 l41 c41 k41
  have E_set_value : Ex K mg "set_value" s_set_value ["member", "what", "amount"] := ex_mk X G b_set_value a42 l42 c42 k42
  have E_change_member : Ex K mg "change_member" s_change_member ["house", "key", "what", "amount"] := ex_mk X G b_change_member a43 l43 c43 k43
  have E_open_event : Ex K mg "open_event" s_open_event ["house", "key"] := ex_mk X G b_open_event a44 l44 c44 k44
  have E_lose_units : Ex K mg "lose_units" s_lose_units ["house", "amount"] := ex_mk X G b_lose_units a45 l45 c45 k45
  have E_recover_units : Ex K mg "recover_units" s_recover_units ["house", "amount"] := ex_mk X G b_recover_units a46 l46 c46 k46
  have E_settle_members_and_pieces : Ex K mg "settle_members_and_pieces" s_settle_members_and_pieces ["house"] := ex_mk X G b_settle_members_and_pieces a47 l47 c47 k47
  have E_close_event : Ex K mg "close_event" s_close_event ["house"] := ex_mk X G b_close_event a48 l48 c48 k48
  have E_who_view : Ex K mg "who_view" s_who_view ["house", "unit"] := ex_mk X G b_who_view a49 l49 c49 k49
  have E_next_view : Ex K mg "next_view" s_next_view ["house"] := ex_mk X G b_next_view a50 l50 c50 k50
  have E_at_view : Ex K mg "at_view" s_at_view ["house", "loss", "k", "key"] := ex_mk X G b_at_view a51 l51 c51 k51
  have E_between_view : Ex K mg "between_view" s_between_view ["house", "lower", "upper", "k", "key"] := ex_mk X G b_between_view a52 l52 c52 k52
  have E_until_view : Ex K mg "until_view" s_until_view ["house", "k", "key", "share"] := ex_mk X G b_until_view a53 l53 c53 k53
  have E_check_view : Ex K mg "check_view" s_check_view ["house", "k", "units", "given"] := ex_mk X G b_check_view a54 l54 c54 k54
  have E_layer_view : Ex K mg "layer_view" s_layer_view ["house", "k"] := ex_mk X G b_layer_view a55 l55 c55 k55
  have E_share_view : Ex K mg "share_view" s_share_view ["house", "k", "key"] := ex_mk X G b_share_view a56 l56 c56 k56
  have E_shares_view : Ex K mg "shares_view" s_shares_view ["house", "k"] := ex_mk X G b_shares_view a57 l57 c57 k57
  have E_person_view : Ex K mg "person_view" s_person_view ["house", "key"] := ex_mk X G b_person_view a58 l58 c58 k58
  have E_fair_share : Ex K mg "fair_share" s_fair_share ["house", "k", "key"] := ex_mk X G b_fair_share a59 l59 c59 k59
  have E_fair_view : Ex K mg "fair_view" s_fair_view ["house", "k", "key"] := ex_mk X G b_fair_view a60 l60 c60 k60
  have E_heaps_view : Ex K mg "heaps_view" s_heaps_view ["house"] := ex_mk X G b_heaps_view a61 l61 c61 k61
  have E_members_view : Ex K mg "members_view" s_members_view ["house"] := ex_mk X G b_members_view a62 l62 c62 k62
  have E_answer_change : Ex K mg "answer_change" s_answer_change ["house", "number", "given"] := ex_mk X G b_answer_change a63 l63 c63 k63
  have E_answer_unit_view : Ex K mg "answer_unit_view" s_answer_unit_view ["house", "number", "given"] := ex_mk X G b_answer_unit_view a64 l64 c64 k64
  have E_answer_view : Ex K mg "answer_view" s_answer_view ["house", "number", "given"] := ex_mk X G b_answer_view a65 l65 c65 k65
  have E_answer_call : Ex K mg "answer_call" s_answer_call ["house", "number", "given"] := ex_mk X G b_answer_call a66 l66 c66 k66
  have E_end_of_call : Ex K mg "end_of_call" s_end_of_call ["calls", "place"] := ex_mk X G b_end_of_call a67 l67 c67 k67
  have F := fun_mk (st := s_answers) l68 c68 k68
  exact ⟨_, fun s us hu => match us, hu with | [_], _ => .of_eq rfl, fun base _ _ => all_defs B T Gt TBe TMe THo E_Bearer E_Member E_House E_is_member_key E_is_bearer_key E_is_money E_is_weight E_is_multiple E_is_some_units E_is_loss E_is_layer E_is_share_list E_room_of E_total_weight E_filled_by E_comes_before E_next_taker E_give_one_by_one E_given_by_weight E_weighted_of E_with_weight_1 E_weightless_of E_shares_after E_taker_of E_units_up_to E_place_by_weight E_place_of E_other_members E_most_of_member E_bearers_of E_room_at E_room_ahead E_borne_at E_covered_at E_uncovered_at E_shares_at E_bearer_of E_share_at E_taker_of_unit E_event_refusal E_bearer_refusal E_add_member E_set_house E_is_change E_set_value E_change_member E_open_event E_lose_units E_recover_units E_settle_members_and_pieces E_close_event E_who_view E_next_view E_at_view E_between_view E_until_view E_check_view E_layer_view E_share_view E_shares_view E_person_view E_fair_share E_fair_view E_heaps_view E_members_view E_answer_change E_answer_unit_view E_answer_view E_answer_call E_end_of_call F⟩
end U
end
set_option Elab.async false
set_option linter.all false
namespace PySem.W.Fast
def tw17012770551429205812:=0
def tw1041173296138546716:=0
def tw4887975452675182394:=0
def tw6860174861895244980:=0
def tw2117381912846970218:=0
def tw13845517494576889428:=0
def tw16222347917078125205:=0
def tw3324555462414171211:=0
def tw1849350882568782740:=0
def tw2328085188327013157:=0
def tw9769238382964736224:=0
def tw5283549251059413901:=0
def tw3525471661174087098:=0
def tw7465171047386989890:=0
def tw12775508090671913616:=0
def tw16692861337921684440:=0
def tw5212630917698507514:=0
def tw14891643446617307419:=0
def tw12140268905626748449:=0
def tw17619067738062907992:=0
def tw3920218285671923791:=0
def tw2031526102832168552:=0
def tw7201650217295226786:=0
def tw10816440736509910305:=0
def tw7431326910358432365:=0
def tw9947578013859122241:=0
def tw15514010662002250571:=0
def tw4736556992064091055:=0
def tw17350274994685045373:=0
def tw10727856939958428832:=0
def tw16803414243944229699:=0
def tw3302577593041284032:=0
def tw9413293857379955183:=0
def tw10142120796752770272:=0
def tw3523812444862302434:=0
def tw10959914077456148874:=0
def tw15687715229020625277:=0
def tw1961881432894639638:=0
def tw11159073214285111041:=0
def tw3091342616129958646:=0
def tw17649228681429833578:=0
def tw16941982504531654235:=0
def tw7923622424298534250:=0
def tw15056302384578572290:=0
def tw7710851810904288798:=0
def tw17794211461838627042:=0
def tw4613961188511464791:=0
def tw1291951773713785068:=0
def tw11310180662633431520:=0
def tw16556730454207490460:=0
def tw11008184345655006250:=0
def tw12666728986720559089:=0
def tw18073061533373574593:=0
def tw17010709937085250029:=0
def tw381411901284146746:=0
def tw12180609513997394251:=0
def tw12337652479173882664:=0
def tw7864640352012190885:=0
def tw16828953137444405723:=0
def tw7419789254365954686:=0
def tw10601749399935705247:=0
def tw424660061631494517:=0
def tw10908815213963040952:=0
def tw8139817973177519266:=0
def tw8375271969990803306:=0
def tw12188244971225793739:=0
def tw16558585959132544787:=0
def tw17608879016375582885:=0
def tw962988452654182778:=0
def tw954817691823629828:=0
def tw3033206036487183865:=0
def tw3070261392687663126:=0
def tw11506649215724154243:=0
def tw10334921228087181609:=0
def tw2161460453243327123:=0
def tw11284256029852959298:=0
def tw11307631207641388855:=0
def tw16270198151180953149:=0
def tw16254097793271687993:=0
def tw1596810020380353106:=0
def tw17622927114493664335:=0
def tw11978710586295289062:=0
def tw5661838419500185332:=0
def tw7445536870754638974:=0
def tw3316470997004102022:=0
def tw6449031172951095059:=0
def tw1180370939706843563:=0
def tw859255169550083237:=0
def tw12392842468581236589:=0
def tw6669794650574610179:=0
def tw7886520048723139394:=0
def tw4080287255045179340:=0
def tw14519556803603117815:=0
def tw15033180226404254386:=0
def tw8804401216520552686:=0
def tw686906701913955093:=0
def tw5066692385010800281:=0
def tw15768050375465485739:=0
def tw17721110782050048461:=0
def tw11172007284697442239:=0
def tw17883952520048770510:=0
def tw12940484296623062325:=0
def tw16519439183342274341:=0
def tw1547131002659624650:=0
def tw16634557959743347951:=0
def tw15555701975980279449:=0
def tw5446655934263367175:=0
def tw4261281164750525594:=0
def tw6811232771508224434:=0
def tw9848492351301538123:=0
def tw4625745687426848033:=0
def tw15338418486412280940:=0
def tw2884056672129098076:=0
def tw10616921722664461494:=0
def tw5611771645017450776:=0
def tw1309671277053587524:=0
def tw1329939202829437178:=0
def tw10880251388320447302:=0
def tw10243727382167202433:=0
def tw8171602986040023812:=0
def tw16817106763026532515:=0
def tw8664925241826006643:=0
def tw17741517937736771924:=0
def tw8266265962483659149:=0
def tw16879372513511383611:=0
def tw6583417384040627310:=0
def tw10140261379804204053:=0
def tw7013303766638636040:=0
def tw2173232859852939990:=0
def tw17161952784961170800:=0
def tw9904747635292406304:=0
def tw18274982480537947711:=0
def tw5851359686617414487:=0
def tw1525321405649530594:=0
def tw16903761371772833005:=0
def tw4745110237737615712:=0
def tw9504398454419010497:=0
def tw1926988805836900006:=0
def tw17419512901867264754:=0
def tw5916720054129957115:=0
def tw10728568747843579869:=0
def tw16086649387021214771:=0
def tw11895378407831272770:=0
def tw262416451325060042:=0
def tw14232420834381449265:=0
def tw13689652235441580899:=0
def tw13996195136084755932:=0
def tw18065801317943064252:=0
def tw14800784167222371669:=0
def tw14180604068571863056:=0
def tw3979479765910510960:=0
def tw10133693197867725250:=0
def tw3818262242595524439:=0
def tw2360791427558015943:=0
def tw1372210392720583486:=0
def tw17622908324809316662:=0
def tw1840909577665002385:=0
def tw156029691486258420:=0
def tw9878330733301466160:=0
def tw17921441363602219867:=0
def tw8258710057832009600:=0
def tw12565944482665683115:=0
def tw6809070235123068098:=0
def tw16521878627830668875:=0
def tw17982787782315156335:=0
def tw18107995146292664885:=0
def tw3378444035015648451:=0
def tw7122272722849724375:=0
def tw7496388409650458972:=0
def tw1477079387607167570:=0
def tw17364774832651867847:=0
def tw8730343542525079743:=0
def tw895171645665358176:=0
def tw1152543864873723401:=0
def tw9321850400217807376:=0
def tw1836113336670800818:=0
def tw16232005980798663326:=0
def tw6432239951365280684:=0
def tw5327925384196453617:=0
def tw16548730549505203189:=0
def tw7134113011318415781:=0
def tw15199495914599326064:=0
def tw13948942554814131110:=0
def tw9039368104753516191:=0
def tw12933921797073154498:=0
def tw6361077119366223375:=0
def tw12565036623859159369:=0
def tw147685141363706007:=0
def tw18131184925074097948:=0
def tw9949333160352090867:=0
def tw9701317682958630796:=0
def tw6342595424397005334:=0
def tw10017361546430754902:=0
def tw8732837539357073973:=0
def tw7917707285257361110:=0
def tw499914044815146112:=0
def tw5366255603182002917:=0
def tw16329464397677390542:=0
def tw2449540277327701061:=0
def tw12471053212922863542:=0
def tw14032650604073578842:=0
def tw13760978035230696281:=0
def tw17853921908539430097:=0
def tw17525813803532846718:=0
def tw8799985879757185631:=0
def tw9443069572794626898:=0
def tw15663179733488635231:=0
def tw16875654714349996730:=0
def tw8780519949133347223:=0
def tw3429765082972114791:=0
def tw9700187428750559701:=0
def tw7031590041481994324:=0
def tw8706360269758802695:=0
def tw16437438551268582628:=0
def tw1258497275023768277:=0
def tw7387528248659910271:=0
def tw4212538177277930889:=0
def tw8974838101707890939:=0
def tw1275219609884340943:=0
def tw17548374552247784067:=0
def tw9785565080487254920:=0
def tw18305101941703521313:=0
def tw16573646338883720414:=0
def tw17792661760224128579:=0
def tw8918231880752237330:=0
def tw3703209074048955323:=0
def tw14207795847801369471:=0
def tw9334925957615817684:=0
def tw826719799909457395:=0
def tw17191095040328986582:=0
def tw16268448772807006404:=0
def tw16213818073842406865:=0
def tw2169519404763566286:=0
def tw8581484955293190308:=0
def tw1206542960565319964:=0
def tw3337272976538130870:=0
def tw2291339521490476144:=0
def tw12144215758148502900:=0
def tw10727739967255655250:=0
def tw4032993633541615659:=0
def tw845409717378254436:=0
def tw7823800320732424517:=0
def tw18146204812303959170:=0
def tw17720648443699417675:=0
def tw7054056482003682104:=0
def tw4880468598826586450:=0
def tw7767046018952204573:=0
def tw10875752015107117624:=0
def tw10245651798015594883:=0
def tw6236334062742552374:=0
def tw11229826448892135278:=0
def tw9110470066739901868:=0
def tw17759494247021080042:=0
def tw10333295816498178877:=0
def tw1746807696943603344:=0
def tw14382404420962010703:=0
def tw1766170738669421685:=0
def tw12029282802241661089:=0
def tw9661091723451923253:=0
def tw12970054661268957527:=0
def tw13924568454587781095:=0
def tw6832550867163959474:=0
def tw1278710318581068022:=0
def tw1802633677423141544:=0
def tw17729670495359737611:=0
def tw7374539612991325721:=0
def tw18182498057780967643:=0
def tw17206896582153260362:=0
def tw1080337384264688202:=0
def tw14676265760829905549:=0
def tw17232037960011183207:=0
def tw7416588161338662372:=0
def tw2752875936150980961:=0
def tw2425294188901016207:=0
def tw5866282432495734144:=0
def tw6155370123875175258:=0
def tw14187328029205624444:=0
def tw16610867409437941968:=0
def tw10124689523125340771:=0
def tw4808921063836279847:=0
def tw8785403783254252023:=0
def tw17179427821900518614:=0
def tw9939740292088009530:=0
def tw9343931165289549736:=0
def tw4914891970118962194:=0
def tw1847022779380388711:=0
def tw4266726977814195130:=0
def tw9249023422750992971:=0
def tw4215887860928773304:=0
def tw1069093227959406325:=0
def tw14772319472776531875:=0
def tw3914121762839731648:=0
def tw8094327578564109804:=0
def tw16165612045738855930:=0
def tw16256714914034274981:=0
def tw8543870577096531660:=0
def tw11096268415626373830:=0
def tw13243338199230246446:=0
def tw17036874580884002266:=0
def tw18236385283388058606:=0
def tw15620178357575731950:=0
def tw14763394379500120007:=0
def tw14296761027597020583:=0
def tw14105143452598409619:=0
def tw749795103926217985:=0
def tw17012320892738833975:=0
def tw8275385502320178254:=0
def tw11281766879840308999:=0
def tw3875771383379759881:=0
def tw12758293668888724148:=0
def tw15226773338692463524:=0
def tw2762064764725187587:=0
def tw3061371527264872368:=0
def tw11058076877730927168:=0
def tw5289435268128202375:=0
def tw13382095981409572199:=0
def tw16869866860854641326:=0
def tw14808801202498968133:=0
def tw989464768757530497:=0
def tw6328866019689700091:=0
def tw5833644211863477960:=0
def tw1234191599500267580:=0
def tw2063435650724746267:=0
def tw17552290248402201263:=0
def tw18200099107154066962:=0
def tw3600034931344663834:=0
def tw17389226387740049522:=0
def tw754243064393405587:=0
def tw12899379344969194247:=0
def tw18382637883408266383:=0
def tw2697683701683854316:=0
def tw17384608768501730086:=0
def tw6573756785535565674:=0
def tw13172202653848131877:=0
def tw4849283204639459447:=0
def tw13478962551174926405:=0
def tw451198011580480625:=0
def tw1500597051490858259:=0
def tw6727146293469542583:=0
def tw3459183091150902760:=0
def tw11761356067739192474:=0
def tw8238492454907484430:=0
def tw16059493130793981466:=0
def tw10444369587366838618:=0
def tw16609988902396223297:=0
def tw13667428783810775887:=0
def tw2719855999479831573:=0
def tw11980318147884703808:=0
def tw2388418891168386800:=0
def tw12852411872511908376:=0
def tw3382362591301939385:=0
def tw16895523375002338177:=0
def tw14298556142812546397:=0
def tw10405786714520216183:=0
def tw17126119271778864991:=0
def tw5594114926104374908:=0
def tw13512721704697778161:=0
def tw7751594762656019427:=0
def tw18272735157662171632:=0
def tw17121289105787336774:=0
def tw6770468226592743936:=0
def tw16015410618989487934:=0
def tw9168252776793424898:=0
def tw8199120685896943773:=0
def tw16898817677084687551:=0
def tw16916097457567789976:=0
def tw8461712761337636261:=0
def tw12395034814599303068:=0
def tw8923062902792233798:=0
def tw12954794991111870206:=0
def tw11565836470868483671:=0
def tw6326364285221800680:=0
def tw17475786428446588436:=0
def tw17876367623301964448:=0
def tw9945086111343059093:=0
def tw2602165178178797522:=0
def tw18253938628937365919:=0
def tw2414146650778460828:=0
def tw2887961976272954314:=0
def tw14340442263726427095:=0
def tw12038404757729212755:=0
def tw14348699810860258040:=0
def tw11994263123726269909:=0
def tw9953373771092741812:=0
def tw12411234785565200778:=0
def tw4271313285749049250:=0
def tw7498298734695313095:=0
def tw14062933389296515340:=0
def tw5152191607889503234:=0
def tw12418980617111796508:=0
def tw14090493248439056988:=0
def tw16281075791248075081:=0
def tw12740458213110738876:=0
def tw7651723353404278760:=0
def tw5505247276853700342:=0
def tw8128088185098739138:=0
def tw10404765341955621974:=0
def tw6990643110750599326:=0
def tw8161512502368197449:=0
def tw10838644098184727504:=0
def tw9315900422024673762:=0
def tw1735398714185976209:=0
def tw527933774677313327:=0
def tw312813132210229729:=0
def tw10268251033969891507:=0
def tw10498172927444981128:=0
def tw18007388165923584662:=0
def tw16656466355077320203:=0
def tw4763812341153184842:=0
def tw12700736416037892972:=0
def tw11475278479517340509:=0
def tw14844451039672354535:=0
def tw10608441857124794454:=0
def tw15332498469762835294:=0
def tw15869238706414565117:=0
def tw9221417220211137123:=0
def tw4756316682183449723:=0
def tw8892689098080594109:=0
def tw7533572791342452320:=0
def tw12466003178991620727:=0
def tw11478005290390136167:=0
def tw12061314308093649767:=0
def tw17774437503117346069:=0
def tw1803563594756831507:=0
def tw8849650629435031145:=0
def tw5637308778379546142:=0
def tw4737426270279984507:=0
def tw14615751257373120644:=0
def tw7702791842772405603:=0
def tw7682855001468790295:=0
def tw15968710912899804905:=0
def tw17605825719828787773:=0
def tw5708897676119972217:=0
def tw10732560837122146469:=0
def tw6385744646619742811:=0
def tw11274117203263190924:=0
def tw7153695899013446259:=0
def tw8419726121115890616:=0
def tw17537855679239729769:=0
def tw3322708299321122883:=0
def tw6730061169032511476:=0
def tw9634784424456683084:=0
def tw1905065487493271818:=0
def tw737681614504309274:=0
def tw4055999217606844313:=0
def tw17506952597357872285:=0
def tw16268962403447780801:=0
def tw10105833172986374865:=0
def tw6602285438334840800:=0
def tw288089250132804550:=0
def tw14932001316713935524:=0
def tw4150308310495117292:=0
def tw5974723847705207756:=0
def tw1218730213056161958:=0
def tw14593770501093765084:=0
def tw3144188330577788249:=0
def tw17936896751878822987:=0
def tw3307578518883927618:=0
def tw2608239316247687666:=0
def tw2026858256407344215:=0
def tw4071252050307190481:=0
def tw17960292916066727822:=0
def tw9718796989656431785:=0
def tw18405183165439059164:=0
def tw15169597205603903289:=0
def tw12482792226716863931:=0
def tw8105534584306902467:=0
def tw8145217517595793685:=0
def tw1546579893799762505:=0
def tw11666637986658133852:=0
def tw13319594488665987307:=0
def tw5541068965275878761:=0
def tw3897569195364043407:=0
def tw2271170586118422490:=0
end PySem.W.Fast
open PySem PySem.W PyProof.Rows
set_option maxRecDepth 100000 in
set_option maxHeartbeats 0 in
theorem PySem.Challenge.cw_lossbook_s01_answers_holds : PySem.Challenge.rw_lossbook_s01_answers.Holds := by
  w_on; k_headS; (case hw => exact ⟨[.list [.int 18]], by decide +kernel, by decide +kernel⟩)
  k_fillS
  refine L2.walk_specK (r := PySem.Challenge.rw_lossbook_s01_answers) (k := 12) (CX := L2.CX0) (ps := ["calls"]) (sp := U.spAnswers) (by decide +kernel) rfl rfl ⟨rfl, by decide, by decide⟩ (fun w h Y => PySem.W.kIn_of Y) ?F ?S (fun _ _ _ _ z => z)
  case F =>
    intro w mg fa h Y KX G hmg
    refine' U.all_mk KX G hmg ?a1 ?l1 ?c1 ?k1 ?a2 ?l2 ?c2 ?k2 ?a3 ?l3 ?c3 ?k3 ?a4 ?l4 ?c4 ?k4 ?a5 ?l5 ?c5 ?k5 ?a6 ?l6 ?c6 ?k6 ?a7 ?l7 ?c7 ?k7 ?a8 ?l8 ?c8 ?k8 ?a9 ?l9 ?c9 ?k9 ?a10 ?l10 ?c10 ?k10 ?a11 ?l11 ?c11 ?k11 ?a12 ?l12 ?c12 ?k12 ?a13 ?l13 ?c13 ?k13 ?a14 ?l14 ?c14 ?k14 ?a15 ?l15 ?c15 ?k15 ?a16 ?l16 ?c16 ?k16 ?a17 ?l17 ?c17 ?k17 ?a18 ?l18 ?c18 ?k18 ?a19 ?l19 ?c19 ?k19 ?a20 ?l20 ?c20 ?k20 ?a21 ?l21 ?c21 ?k21 ?a22 ?l22 ?c22 ?k22 ?a23 ?l23 ?c23 ?k23 ?a24 ?l24 ?c24 ?k24 ?a25 ?l25 ?c25 ?k25 ?a26 ?l26 ?c26 ?k26 ?a27 ?l27 ?c27 ?k27 ?a28 ?l28 ?c28 ?k28 ?a29 ?l29 ?c29 ?k29 ?a30 ?l30 ?c30 ?k30 ?a31 ?l31 ?c31 ?k31 ?a32 ?l32 ?c32 ?k32 ?a33 ?l33 ?c33 ?k33 ?a34 ?l34 ?c34 ?k34 ?a35 ?l35 ?c35 ?k35 ?a36 ?l36 ?c36 ?k36 ?a37 ?l37 ?c37 ?k37 ?a38 ?l38 ?c38 ?k38 ?a39 ?l39 ?c39 ?k39 ?a40 ?l40 ?c40 ?k40 ?a41 ?l41 ?c41 ?k41 ?a42 ?l42 ?c42 ?k42 ?a43 ?l43 ?c43 ?k43 ?a44 ?l44 ?c44 ?k44 ?a45 ?l45 ?c45 ?k45 ?a46 ?l46 ?c46 ?k46 ?a47 ?l47 ?c47 ?k47 ?a48 ?l48 ?c48 ?k48 ?a49 ?l49 ?c49 ?k49 ?a50 ?l50 ?c50 ?k50 ?a51 ?l51 ?c51 ?k51 ?a52 ?l52 ?c52 ?k52 ?a53 ?l53 ?c53 ?k53 ?a54 ?l54 ?c54 ?k54 ?a55 ?l55 ?c55 ?k55 ?a56 ?l56 ?c56 ?k56 ?a57 ?l57 ?c57 ?k57 ?a58 ?l58 ?c58 ?k58 ?a59 ?l59 ?c59 ?k59 ?a60 ?l60 ?c60 ?k60 ?a61 ?l61 ?c61 ?k61 ?a62 ?l62 ?c62 ?k62 ?a63 ?l63 ?c63 ?k63 ?a64 ?l64 ?c64 ?k64 ?a65 ?l65 ?c65 ?k65 ?a66 ?l66 ?c66 ?k66 ?a67 ?l67 ?c67 ?k67 ?a68 ?l68 ?c68 ?k68 ?z69 ?a69 ?i69 ?l69 ?c69 ?k69 ?pg69 ?hd69 ?po69 ?sa69 ?mk69 ?kc69 ?n69_0 ?n69_1 ?n69_2 ?z70 ?a70 ?i70 ?l70 ?c70 ?k70 ?pg70 ?hd70 ?po70 ?sa70 ?mk70 ?kc70 ?n70_0 ?n70_1 ?n70_2 ?n70_3 ?n70_4 ?z71 ?a71 ?i71 ?l71 ?c71 ?k71 ?pg71 ?hd71 ?po71 ?sa71 ?mk71 ?kc71 ?n71_0 ?n71_1 ?n71_2 ?n71_3 ?n71_4 ?n71_5 ?n71_6 ?n71_7 ?b_len ?b_sum ?b_min ?b_max ?b_dict ?b_range ?b_sorted ?b_all ?b_list ?c_MOST_MEMBERS ?c_MOST_KEY ?c_MOST_MONEY ?c_MOST_WEIGHT ?c_MOST_MULTIPLE ?c_MOST_LOSS ?c_LAST_LAYER ?c_HOUSE_KEY ?c_NO_REFUSAL ?c_OUT_OF_RANGE ?c_MEMBER_EXISTS ?c_MORE_THAN_MOST ?c_NO_MEMBER ?c_EVENT_IS_OPEN ?c_LOSS_OUT_OF_RANGE ?c_NO_EVENT ?c_NO_BEARER ?c_TOO_MANY_MEMBERS ?c_MARGIN ?c_FUND ?c_GAIN ?c_WEIGHT ?c_LAST_CHANGE ?c_FIRST_OF_UNITS ?c_CHECK ?aN ?lN ?aA ?lA
    (case a1 => k_is); (case l1 => k_is); (case c1 => k_is); (case k1 => k_is); (case a2 => k_is); (case l2 => k_is)
    (case c2 => k_is); (case k2 => k_is); (case a3 => k_is); (case l3 => k_is); (case c3 => k_is); (case k3 => k_is)
    (case a4 => k_is); (case l4 => k_is); (case c4 => k_is); (case k4 => k_is); (case a5 => k_is); (case l5 => k_is)
    (case c5 => k_is); (case k5 => k_is); (case a6 => k_is); (case l6 => k_is); (case c6 => k_is); (case k6 => k_is)
    (case a7 => k_is); (case l7 => k_is); (case c7 => k_is); (case k7 => k_is); (case a8 => k_is); (case l8 => k_is)
    (case c8 => k_is); (case k8 => k_is); (case a9 => k_is); (case l9 => k_is); (case c9 => k_is); (case k9 => k_is)
    (case a10 => k_is); (case l10 => k_is); (case c10 => k_is); (case k10 => k_is); (case a11 => k_is); (case l11 => k_is)
    (case c11 => k_is); (case k11 => k_is); (case a12 => k_is); (case l12 => k_is); (case c12 => k_is); (case k12 => k_is)
    (case a13 => k_is); (case l13 => k_is); (case c13 => k_is); (case k13 => k_is); (case a14 => k_is); (case l14 => k_is)
    (case c14 => k_is); (case k14 => k_is); (case a15 => k_is); (case l15 => k_is); (case c15 => k_is); (case k15 => k_is)
    (case a16 => k_is); (case l16 => k_is); (case c16 => k_is); (case k16 => k_is); (case a17 => k_is); (case l17 => k_is)
    (case c17 => k_is); (case k17 => k_is); (case a18 => k_is); (case l18 => k_is); (case c18 => k_is); (case k18 => k_is)
    (case a19 => k_is); (case l19 => k_is); (case c19 => k_is); (case k19 => k_is); (case a20 => k_is); (case l20 => k_is)
    (case c20 => k_is); (case k20 => k_is); (case a21 => k_is); (case l21 => k_is); (case c21 => k_is); (case k21 => k_is)
    (case a22 => k_is); (case l22 => k_is); (case c22 => k_is); (case k22 => k_is); (case a23 => k_is); (case l23 => k_is)
    (case c23 => k_is); (case k23 => k_is); (case a24 => k_is); (case l24 => k_is); (case c24 => k_is); (case k24 => k_is)
    (case a25 => k_is); (case l25 => k_is); (case c25 => k_is); (case k25 => k_is); (case a26 => k_is); (case l26 => k_is)
    (case c26 => k_is); (case k26 => k_is); (case a27 => k_is); (case l27 => k_is); (case c27 => k_is); (case k27 => k_is)
    (case a28 => k_is); (case l28 => k_is); (case c28 => k_is); (case k28 => k_is); (case a29 => k_is); (case l29 => k_is)
    (case c29 => k_is); (case k29 => k_is); (case a30 => k_is); (case l30 => k_is); (case c30 => k_is); (case k30 => k_is)
    (case a31 => k_is); (case l31 => k_is); (case c31 => k_is); (case k31 => k_is); (case a32 => k_is); (case l32 => k_is)
    (case c32 => k_is); (case k32 => k_is); (case a33 => k_is); (case l33 => k_is); (case c33 => k_is); (case k33 => k_is)
    (case a34 => k_is); (case l34 => k_is); (case c34 => k_is); (case k34 => k_is); (case a35 => k_is); (case l35 => k_is)
    (case c35 => k_is); (case k35 => k_is); (case a36 => k_is); (case l36 => k_is); (case c36 => k_is); (case k36 => k_is)
    (case a37 => k_is); (case l37 => k_is); (case c37 => k_is); (case k37 => k_is); (case a38 => k_is); (case l38 => k_is)
    (case c38 => k_is); (case k38 => k_is); (case a39 => k_is); (case l39 => k_is); (case c39 => k_is); (case k39 => k_is)
    (case a40 => k_is); (case l40 => k_is); (case c40 => k_is); (case k40 => k_is); (case a41 => k_is); (case l41 => k_is)
    (case c41 => k_is); (case k41 => k_is); (case a42 => k_is); (case l42 => k_is); (case c42 => k_is); (case k42 => k_is)
    (case a43 => k_is); (case l43 => k_is); (case c43 => k_is); (case k43 => k_is); (case a44 => k_is); (case l44 => k_is)
    (case c44 => k_is); (case k44 => k_is); (case a45 => k_is); (case l45 => k_is); (case c45 => k_is); (case k45 => k_is)
    (case a46 => k_is); (case l46 => k_is); (case c46 => k_is); (case k46 => k_is); (case a47 => k_is); (case l47 => k_is)
    (case c47 => k_is); (case k47 => k_is); (case a48 => k_is); (case l48 => k_is); (case c48 => k_is); (case k48 => k_is)
    (case a49 => k_is); (case l49 => k_is); (case c49 => k_is); (case k49 => k_is); (case a50 => k_is); (case l50 => k_is)
    (case c50 => k_is); (case k50 => k_is); (case a51 => k_is); (case l51 => k_is); (case c51 => k_is); (case k51 => k_is)
    (case a52 => k_is); (case l52 => k_is); (case c52 => k_is); (case k52 => k_is); (case a53 => k_is); (case l53 => k_is)
    (case c53 => k_is); (case k53 => k_is); (case a54 => k_is); (case l54 => k_is); (case c54 => k_is); (case k54 => k_is)
    (case a55 => k_is); (case l55 => k_is); (case c55 => k_is); (case k55 => k_is); (case a56 => k_is); (case l56 => k_is)
    (case c56 => k_is); (case k56 => k_is); (case a57 => k_is); (case l57 => k_is); (case c57 => k_is); (case k57 => k_is)
    (case a58 => k_is); (case l58 => k_is); (case c58 => k_is); (case k58 => k_is); (case a59 => k_is); (case l59 => k_is)
    (case c59 => k_is); (case k59 => k_is); (case a60 => k_is); (case l60 => k_is); (case c60 => k_is); (case k60 => k_is)
    (case a61 => k_is); (case l61 => k_is); (case c61 => k_is); (case k61 => k_is); (case a62 => k_is); (case l62 => k_is)
    (case c62 => k_is); (case k62 => k_is); (case a63 => k_is); (case l63 => k_is); (case c63 => k_is); (case k63 => k_is)
    (case a64 => k_is); (case l64 => k_is); (case c64 => k_is); (case k64 => k_is); (case a65 => k_is); (case l65 => k_is)
    (case c65 => k_is); (case k65 => k_is); (case a66 => k_is); (case l66 => k_is); (case c66 => k_is); (case k66 => k_is)
    (case a67 => k_is); (case l67 => k_is); (case c67 => k_is); (case k67 => k_is); (case a68 => k_is); (case l68 => k_is)
    (case c68 => k_is); (case k68 => k_is); (case z69 => k_is); (case a69 => k_is); (case i69 => k_is); (case l69 => k_is)
    (case c69 => k_is); (case k69 => k_is); (case pg69 => k_is); (case hd69 => k_is); (case po69 => k_is); (case sa69 => k_is)
    (case mk69 => k_is); (case kc69 => k_is); (case n69_0 => k_is); (case n69_1 => k_is); (case n69_2 => k_is); (case z70 => k_is)
    (case a70 => k_is); (case i70 => k_is); (case l70 => k_is); (case c70 => k_is); (case k70 => k_is); (case pg70 => k_is)
    (case hd70 => k_is); (case po70 => k_is); (case sa70 => k_is); (case mk70 => k_is); (case kc70 => k_is); (case n70_0 => k_is)
    (case n70_1 => k_is); (case n70_2 => k_is); (case n70_3 => k_is); (case n70_4 => k_is); (case z71 => k_is); (case a71 => k_is)
    (case i71 => k_is); (case l71 => k_is); (case c71 => k_is); (case k71 => k_is); (case pg71 => k_is); (case hd71 => k_is)
    (case po71 => k_is); (case sa71 => k_is); (case mk71 => k_is); (case kc71 => k_is); (case n71_0 => k_is); (case n71_1 => k_is)
    (case n71_2 => k_is); (case n71_3 => k_is); (case n71_4 => k_is); (case n71_5 => k_is); (case n71_6 => k_is); (case n71_7 => k_is)
    (case b_len => k_is); (case b_sum => k_is); (case b_min => k_is); (case b_max => k_is); (case b_dict => k_is); (case b_range => k_is)
    (case b_sorted => k_is); (case b_all => k_is); (case b_list => k_is); (case c_MOST_MEMBERS => k_is); (case c_MOST_KEY => k_is); (case c_MOST_MONEY => k_is)
    (case c_MOST_WEIGHT => k_is); (case c_MOST_MULTIPLE => k_is); (case c_MOST_LOSS => k_is); (case c_LAST_LAYER => k_is); (case c_HOUSE_KEY => k_is); (case c_NO_REFUSAL => k_is)
    (case c_OUT_OF_RANGE => k_is); (case c_MEMBER_EXISTS => k_is); (case c_MORE_THAN_MOST => k_is); (case c_NO_MEMBER => k_is); (case c_EVENT_IS_OPEN => k_is); (case c_LOSS_OUT_OF_RANGE => k_is)
    (case c_NO_EVENT => k_is); (case c_NO_BEARER => k_is); (case c_TOO_MANY_MEMBERS => k_is); (case c_MARGIN => k_is); (case c_FUND => k_is); (case c_GAIN => k_is)
    (case c_WEIGHT => k_is); (case c_LAST_CHANGE => k_is); (case c_FIRST_OF_UNITS => k_is); (case c_CHECK => k_is); (case aN => k_is); (case lN => k_is)
    (case aA => k_is); (case lA => k_is)
  case S =>
    intro K H xs a hO hwi hask hx
    cases hx with
    | cons h1 h2 =>
      cases h2
      cases h1 with
      | lst hs ha =>
        have e := L2.ints_dw a.1 _ ha
        subst e
        have q : ((Codec.inLen 0 16000 a.1 && a.1.all (Codec.inInt (-1000000000000000000) 1000000000000000000)) && true) = true := hwi
        rw [Bool.and_eq_true, Bool.and_eq_true] at q
        obtain ⟨cs, ln, hc, ea⟩ := Lb.asked_line (l := a.1) hask
        refine ⟨_, a.1, cs, rfl, hs, (Codec.inNat_iff.mp q.1.1).2, ln, hc, fun H' p hp => ?_⟩
        rw [← ea] at hp
        exact .lst (L2.SqL.of hp) (L2.dw_ints _)
#print axioms PySem.Challenge.cw_lossbook_s01_answers_holds
