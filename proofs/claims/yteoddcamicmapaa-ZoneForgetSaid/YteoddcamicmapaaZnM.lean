/- Zones as lists of bounds: what the functions answer, and shortest paths. Of no program. -/
import Derived.Test.YteoddcamicmapaaSl
namespace Go.Proofs.Yteoddcamicmapaa

/-- The bound of two indices in the full zone. -/
def fuB (i j : Nat) : Int := if i = j then 0 else if i = 0 ∨ j = 0 then 10000 else 20000
/-- An entry of a square of n rows. -/
def gt (n : Nat) (b : List Int) (i j : Nat) : Int := b.getD (i * n + j) 0
/-- A square of n rows. -/
def flat (n : Nat) (f : Nat → Nat → Int) : List Int := (List.range (n * n)).map fun p => f (p / n) (p % n)
theorem fuB_lo (i j : Nat) : 0 ≤ fuB i j := by unfold fuB; split <;> (try split) <;> omega
theorem fuB_hi (i j : Nat) : fuB i j ≤ 20000 := by unfold fuB; split <;> (try split) <;> omega
theorem fuB_self (i : Nat) : fuB i i = 0 := by unfold fuB; rw [if_pos rfl]
theorem fuB_left (i : Nat) : fuB i 0 ≤ 10000 := by unfold fuB; split <;> (try split) <;> omega
theorem fuB_right (i : Nat) : fuB 0 i ≤ 10000 := by unfold fuB; split <;> (try split) <;> omega
theorem sq_lt {n i j : Nat} (hi : i < n) (hj : j < n) : i * n + j < n * n := by
  have h1 : (i + 1) * n ≤ n * n := Nat.mul_le_mul_right n hi
  have h2 : (i + 1) * n = i * n + n := by rw [Nat.add_mul, Nat.one_mul]
  omega
theorem sq_div {n i j : Nat} (hj : j < n) : (i * n + j) / n = i := by
  rw [Nat.mul_comm, Nat.mul_add_div (by omega), Nat.div_eq_of_lt hj]; rfl
theorem sq_mod {n i j : Nat} (hj : j < n) : (i * n + j) % n = j := by
  rw [Nat.mul_comm, Nat.mul_add_mod, Nat.mod_eq_of_lt hj]
theorem sq_row {n p : Nat} (h : p < n * n) : p / n < n := Nat.div_lt_of_lt_mul h
theorem sq_col {n p : Nat} (h : p < n * n) : p % n < n := by
  rcases Nat.eq_zero_or_pos n with h0 | h0
  · subst h0; omega
  · exact Nat.mod_lt _ h0
theorem sq_inj {n i j k l : Nat} (hj : j < n) (hl : l < n) (h : i * n + j = k * n + l) : i = k ∧ j = l := by
  constructor
  · have := congrArg (· / n) h
    simpa only [sq_div hj, sq_div hl] using this
  · have := congrArg (· % n) h
    simpa only [sq_mod hj, sq_mod hl] using this
theorem flat_len (n : Nat) (f : Nat → Nat → Int) : (flat n f).length = n * n := by unfold flat; rw [List.length_map, List.length_range]
theorem gt_flat {n i j : Nat} (f : Nat → Nat → Int) (hi : i < n) (hj : j < n) : gt n (flat n f) i j = f i j := by
  unfold gt flat
  rw [List.getD_eq_getElem?_getD, List.getElem?_map, List.getElem?_range (sq_lt hi hj)]
  simp only [Option.map_some, Option.getD_some, sq_div hj, sq_mod hj]
theorem gt_at {n i j : Nat} {b : List Int} (h : i * n + j < b.length) : b[i * n + j] = gt n b i j := by
  unfold gt; rw [List.getD_eq_getElem?_getD, List.getElem?_eq_getElem h]; rfl
theorem gt_div {n p : Nat} {b : List Int} (h : p < b.length) : b[p] = gt n b (p / n) (p % n) := by
  have e : p / n * n + p % n = p := by rw [Nat.mul_comm]; exact Nat.div_add_mod p n
  unfold gt; rw [e, List.getD_eq_getElem?_getD, List.getElem?_eq_getElem h]; rfl
theorem sq_ext {n : Nat} {a b : List Int} (ha : a.length = n * n) (hb : b.length = n * n) (h : ∀ i j, i < n → j < n → gt n a i j = gt n b i j) : a = b := by
  refine List.ext_getElem (by omega) fun p h1 h2 => ?_
  rw [gt_div (n := n) h1, gt_div (n := n) h2]
  exact h _ _ (sq_row (by omega)) (sq_col (by omega))
theorem flat_gt {n : Nat} {b : List Int} (hb : b.length = n * n) : flat n (gt n b) = b := sq_ext (flat_len _ _) hb fun _ _ hi hj => gt_flat _ hi hj
theorem flat_ext {n : Nat} {f g : Nat → Nat → Int} (h : ∀ i j, i < n → j < n → f i j = g i j) : flat n f = flat n g :=
  sq_ext (flat_len _ _) (flat_len _ _) fun i j hi hj => by rw [gt_flat _ hi hj, gt_flat _ hi hj, h i j hi hj]
theorem flat_take {n i j : Nat} (f : Nat → Nat → Int) (hi : i < n) (hj : j < n) : (flat n f).take (i * n + j + 1) = (flat n f).take (i * n + j) ++ [f i j] := by
  have h := sq_lt hi hj
  have hl := flat_len n f
  rw [List.take_succ_eq_append_getElem (by omega), gt_at (n := n), gt_flat f hi hj]
theorem flat_all {n : Nat} (f : Nat → Nat → Int) : (flat n f).take (n * n) = flat n f := List.take_of_length_le (by rw [flat_len]; exact Nat.le_refl _)
theorem gt_set {n i j k l : Nat} {b : List Int} (x : Int) (hb : b.length = n * n) (hi : i < n) (hj : j < n) (hl : l < n) : gt n (b.set (i * n + j) x) k l = if k = i ∧ l = j then x else gt n b k l := by
  have h := sq_lt hi hj
  unfold gt
  rw [List.getD_eq_getElem?_getD, List.getD_eq_getElem?_getD, List.getElem?_set]
  by_cases e : i * n + j = k * n + l
  · obtain ⟨rfl, rfl⟩ := sq_inj hj hl e
    rw [if_pos rfl, if_pos (by omega), if_pos ⟨rfl, rfl⟩]; rfl
  · rw [if_neg e, if_neg]
    rintro ⟨rfl, rfl⟩
    exact e rfl

/-- Whether a zone of N variables with the bounds b is valid. -/
def zvB (N : Int) (b : List Int) : Bool := decide (0 ≤ N ∧ N ≤ 24 ∧ (b.length : Int) = (N + 1) * (N + 1)) && decide (∀ x ∈ b, -20001 ≤ x ∧ x ≤ 20000)
/-- Valid, n the number of rows. -/
structure Zv (n : Nat) (b : List Int) : Prop where
  pos : 1 ≤ n
  few : n ≤ 25
  len : b.length = n * n
  lo : ∀ i j, i < n → j < n → -20001 ≤ gt n b i j
  hi : ∀ i j, i < n → j < n → gt n b i j ≤ 20000
theorem zv_ent {n : Nat} {b : List Int} (hl : b.length = n * n) : (∀ x ∈ b, -20001 ≤ x ∧ x ≤ 20000) ↔ ∀ i j, i < n → j < n → -20001 ≤ gt n b i j ∧ gt n b i j ≤ 20000 := by
  constructor
  · intro h i j hi hj
    have := sq_lt hi hj
    rw [← gt_at (by omega)]
    exact h _ (List.getElem_mem _)
  · intro h x hx
    obtain ⟨p, hp, rfl⟩ := List.mem_iff_getElem.1 hx
    rw [gt_div (n := n) hp]
    exact h _ _ (sq_row (by omega)) (sq_col (by omega))
theorem zvB_iff {N : Int} {b : List Int} : zvB N b = true ↔ ∃ n : Nat, N = (n : Int) - 1 ∧ Zv n b := by
  unfold zvB
  rw [Bool.and_eq_true, decide_eq_true_iff, decide_eq_true_iff]
  constructor
  · rintro ⟨⟨h1, h2, h3⟩, h4⟩
    obtain ⟨k, rfl⟩ : ∃ k : Nat, N = k := ⟨N.toNat, by omega⟩
    have hl : b.length = (k + 1) * (k + 1) := by exact_mod_cast h3
    have := (zv_ent hl).1 h4
    exact ⟨k + 1, by omega, by omega, by omega, hl, fun i j hi hj => (this i j hi hj).1, fun i j hi hj => (this i j hi hj).2⟩
  · rintro ⟨n, rfl, h⟩
    obtain ⟨k, rfl⟩ : ∃ k : Nat, n = k + 1 := ⟨n - 1, by have := h.pos; omega⟩
    have := h.few
    refine ⟨⟨by omega, by omega, ?_⟩, (zv_ent h.len).2 fun i j hi hj => ⟨h.lo i j hi hj, h.hi i j hi hj⟩⟩
    rw [h.len]
    have e : ((k + 1 : Nat) : Int) - 1 + 1 = ((k + 1 : Nat) : Int) := by omega
    rw [e]; push_cast; rfl
theorem Zv.val {n : Nat} {b : List Int} (h : Zv n b) : zvB ((n : Int) - 1) b = true := zvB_iff.2 ⟨n, rfl, h⟩

/-- Numbers that keep bounds. -/
def Sat (n : Nat) (M : Nat → Nat → Int) (v : Nat → Int) : Prop := ∀ i j, i < n → j < n → v i - v j ≤ M i j
/-- The bounds of a zone, and those of the full one. -/
def dm (n : Nat) (b : List Int) (i j : Nat) : Int := min (gt n b i j) (fuB i j)
/-- The bounds C are those of D, closed. -/
structure IsCl (n : Nat) (D C : Nat → Nat → Int) : Prop where
  le : ∀ i j, i < n → j < n → C i j ≤ D i j
  dg : ∀ i, i < n → C i i = 0
  tr : ∀ i j k, i < n → j < n → k < n → C i j ≤ C i k + C k j
  so : ∀ v, Sat n D v → Sat n C v
/-- What closing tells. -/
def ClR (n : Nat) (b : List Int) : Option (List Int) → Prop
  | none => ∀ v, ¬ Sat n (dm n b) v
  | some c => c.length = n * n ∧ IsCl n (dm n b) (gt n c)
theorem IsCl.sat {n : Nat} {D C : Nat → Nat → Int} (h : IsCl n D C) {j : Nat} (hj : j < n) : Sat n C (fun x => C x j) := fun x y hx hy => by
  have := h.tr x j y hx hj hy
  show C x j - C y j ≤ C x y
  omega
theorem IsCl.satD {n : Nat} {D C : Nat → Nat → Int} (h : IsCl n D C) {v : Nat → Int} (hv : Sat n C v) : Sat n D v := fun i j hi hj => Int.le_trans (hv i j hi hj) (h.le i j hi hj)
theorem IsCl.uniq {n : Nat} {D C C' : Nat → Nat → Int} (h : IsCl n D C) (h' : IsCl n D C') {i j : Nat} (hi : i < n) (hj : j < n) : C i j = C' i j := by
  have h1 := h'.so _ (h.satD (h.sat hj)) i j hi hj
  have h2 := h.so _ (h'.satD (h'.sat hj)) i j hi hj
  have e1 := h.dg j hj
  have e2 := h'.dg j hj
  omega
theorem ClR.uniq {n : Nat} {b : List Int} {r r' : Option (List Int)} (hn : 1 ≤ n) (h : ClR n b r) (h' : ClR n b r') : r = r' := by
  cases r with
  | none =>
    cases r' with
    | none => rfl
    | some c => exact absurd (h'.2.satD (h'.2.sat (j := 0) (by omega))) (h _)
  | some c =>
    cases r' with
    | none => exact absurd (h.2.satD (h.2.sat (j := 0) (by omega))) (h' _)
    | some c' => rw [sq_ext h.1 h'.1 fun i j hi hj => h.2.uniq h'.2 hi hj]

/-! ## Shortest paths -/
/-- One step by way of k, where sums are not taken below c. -/
def stp (c : Int) (k : Nat) (M : Nat → Nat → Int) (i j : Nat) : Int := min (M i j) (max c (M i k + M k j))
/-- Behind k rounds. -/
structure Wf (n : Nat) (c : Int) (D : Nat → Nat → Int) (k : Nat) (M : Nat → Nat → Int) : Prop where
  lo : ∀ i j, i < n → j < n → c ≤ M i j
  le : ∀ i j, i < n → j < n → M i j ≤ D i j
  tr : ∀ i j x, i < n → j < n → x < k → M i j ≤ max c (M i x + M x j)
  so : ∀ v, Sat n D v → Sat n M v
theorem stp_row {n : Nat} {c : Int} {D M : Nat → Nat → Int} {k m : Nat} (h : Wf n c D m M) (hkk : M k k = 0) (hk : k < n) {i : Nat} (hi : i < n) : stp c k M i k = M i k := by
  have := h.lo i k hi hk
  unfold stp; omega
theorem stp_col {n : Nat} {c : Int} {D M : Nat → Nat → Int} {k m : Nat} (h : Wf n c D m M) (hkk : M k k = 0) (hk : k < n) {j : Nat} (hj : j < n) : stp c k M k j = M k j := by
  have := h.lo k j hk hj
  unfold stp; omega
theorem stp_sat {n : Nat} {c : Int} {M : Nat → Nat → Int} {k : Nat} (hk : k < n) {v : Nat → Int} (h : Sat n M v) : Sat n (stp c k M) v := fun i j hi hj => by
  have h1 := h i j hi hj; have h2 := h i k hi hk; have h3 := h k j hk hj
  unfold stp; omega
theorem stp_le {c : Int} {M : Nat → Nat → Int} {k i j : Nat} : stp c k M i j ≤ M i j := by unfold stp; omega
theorem stp_lo {c l : Int} {M : Nat → Nat → Int} {k i j : Nat} (h1 : l ≤ M i j) (h2 : l ≤ M i k) (h3 : l ≤ M k j) (h4 : l ≤ 0) : 2 * l ≤ stp c k M i j := by unfold stp; omega
theorem Wf.step {n : Nat} {c : Int} {D M : Nat → Nat → Int} {k : Nat} (hc : c ≤ -20001) (hD : ∀ i j, i < n → j < n → D i j ≤ 20000) (h : Wf n c D k M) (hkk : M k k = 0) (hk : k < n) (hd : ∀ i, i < n → 0 ≤ stp c k M i i) : Wf n c D (k + 1) (stp c k M) := by
  have big : ∀ j, j < n → c < M k j ∧ c < M j k := by
    intro j hj
    have h1 := hd j hj
    have h2 := h.le j k hj hk; have h3 := hD j k hj hk
    have h4 := h.le k j hk hj; have h5 := hD k j hk hj
    have h6 := h.lo j k hj hk; have h7 := h.lo k j hk hj
    unfold stp at h1
    omega
  refine ⟨fun i j hi hj => ?_, fun i j hi hj => Int.le_trans stp_le (h.le i j hi hj), ?_, fun v hv => stp_sat hk (h.so v hv)⟩
  · have := h.lo i j hi hj; unfold stp; omega
  · intro i j x hi hj hx
    by_cases e : x = k
    · subst e
      rw [stp_row h hkk hk hi, stp_col h hkk hk hj]
      unfold stp; omega
    · have hx : x < k := by omega
      have hxn : x < n := by omega
      have h1 := h.tr i j x hi hj hx
      have h2 := h.tr k j x hk hj hx
      have h3 := h.tr i k x hi hk hx
      have h4 := h.tr k k x hk hk hx
      have h5 := big j hj; have h6 := big i hi
      unfold stp
      omega
/-- Where a round stands: entries ahead of p are done. -/
def mixL (n : Nat) (G M : Nat → Nat → Int) (p : Nat) : List Int := flat n fun i j => if i * n + j < p then G i j else M i j
theorem mix_len (n : Nat) (G M : Nat → Nat → Int) (p : Nat) : (mixL n G M p).length = n * n := flat_len _ _
theorem mix_zero (n : Nat) (G M : Nat → Nat → Int) : mixL n G M 0 = flat n M := flat_ext fun _ _ _ _ => if_neg (by omega)
theorem mix_all (n : Nat) (G M : Nat → Nat → Int) : mixL n G M (n * n) = flat n G := flat_ext fun _ _ hi hj => if_pos (sq_lt hi hj)
theorem mix_same {n : Nat} {G M : Nat → Nat → Int} {i j : Nat} (h : G i j = M i j) (p : Nat) (hi : i < n) (hj : j < n) : gt n (mixL n G M p) i j = M i j := by
  unfold mixL; rw [gt_flat _ hi hj, h, ite_self]
theorem mix_new {n : Nat} (G M : Nat → Nat → Int) {i j : Nat} (hi : i < n) (hj : j < n) : gt n (mixL n G M (i * n + j)) i j = M i j := by
  unfold mixL; rw [gt_flat _ hi hj, if_neg (by omega)]
theorem mix_old {n : Nat} (G M : Nat → Nat → Int) {p i j : Nat} (hi : i < n) (hj : j < n) (hp : i * n + j < p) : gt n (mixL n G M p) i j = G i j := by
  unfold mixL; rw [gt_flat _ hi hj, if_pos hp]
theorem mix_set {n : Nat} (G M : Nat → Nat → Int) {i j : Nat} (hi : i < n) (hj : j < n) : (mixL n G M (i * n + j)).set (i * n + j) (G i j) = mixL n G M (i * n + j + 1) := by
  refine sq_ext (n := n) (by rw [List.length_set, mix_len]) (mix_len _ _ _ _) fun a b ha hb => ?_
  rw [gt_set _ (mix_len _ _ _ _) hi hj hb]
  unfold mixL
  rw [gt_flat _ ha hb, gt_flat _ ha hb]
  by_cases e : a = i ∧ b = j
  · obtain ⟨rfl, rfl⟩ := e
    rw [if_pos ⟨rfl, rfl⟩, if_pos (by omega)]
  · rw [if_neg e]
    have hne : a * n + b ≠ i * n + j := fun h => e (sq_inj hb hj h)
    by_cases h : a * n + b < i * n + j
    · rw [if_pos h, if_pos (by omega)]
    · rw [if_neg h, if_neg (by omega)]
theorem Wf.start {n : Nat} {c : Int} {D : Nat → Nat → Int} (h1 : ∀ i j, i < n → j < n → c ≤ D i j) : Wf n c D 0 D := ⟨h1, fun _ _ _ _ => Int.le_refl _, (by intro i j x _ _ hx; omega), fun _ h => h⟩
/-- Behind all rounds the bounds are closed. -/
theorem Wf.closed {n : Nat} {c : Int} {D M : Nat → Nat → Int} (hc : c ≤ -20001) (hD : ∀ i j, i < n → j < n → D i j ≤ 20000) (h : Wf n c D n M) (hd : ∀ i, i < n → M i i = 0) : IsCl n D M := by
  have big : ∀ i j, i < n → j < n → c < M i j := by
    intro i j hi hj
    have h1 := h.tr i i j hi hi hj
    have h2 := hd i hi
    have h3 := h.le j i hj hi; have h4 := hD j i hj hi
    have h5 := h.lo i j hi hj
    omega
  exact ⟨h.le, hd, fun i j k hi hj hk => by have h1 := h.tr i j k hi hj hk; have h2 := big i j hi hj; omega, h.so⟩
theorem neg_empty {n : Nat} {D M : Nat → Nat → Int} (hs : ∀ v, Sat n D v → Sat n M v) {i : Nat} (hi : i < n) (h : M i i < 0) : ∀ v, ¬ Sat n D v := fun v hv => by
  have := hs v hv i i hi hi
  omega
theorem dm_hi (n : Nat) (b : List Int) (i j : Nat) : dm n b i j ≤ 20000 := by have := fuB_hi i j; unfold dm; omega
theorem dm_lo {n : Nat} {b : List Int} (h : Zv n b) {i j : Nat} (hi : i < n) (hj : j < n) : -20001 ≤ dm n b i j := by have := fuB_lo i j; have := h.lo i j hi hj; unfold dm; omega
theorem dm_self_le (n : Nat) (b : List Int) (i : Nat) : dm n b i i ≤ 0 := by have := fuB_self i; unfold dm; omega
theorem ClR.some {n : Nat} {b : List Int} {M : Nat → Nat → Int} (h1 : IsCl n (dm n b) M) : ClR n b (.some (flat n M)) := by
  refine ⟨flat_len _ _, fun i j hi hj => ?_, fun i hi => ?_, fun i j k hi hj hk => ?_, fun v hv i j hi hj => ?_⟩
  · rw [gt_flat _ hi hj]; exact h1.le i j hi hj
  · rw [gt_flat _ hi hi]; exact h1.dg i hi
  · rw [gt_flat _ hi hj, gt_flat _ hi hk, gt_flat _ hk hj]; exact h1.tr i j k hi hj hk
  · rw [gt_flat _ hi hj]; exact h1.so v hv i j hi hj
/-- Closing always tells something. -/
theorem ClR.ex {n : Nat} {b : List Int} (h : Zv n b) : ∃ r, ClR n b r := by
  by_cases h0 : ∀ i, i < n → dm n b i i = 0
  · have all : ∀ k, k ≤ n → (∀ v, ¬ Sat n (dm n b) v) ∨ ∃ M, Wf n (-20001) (dm n b) k M ∧ ∀ i, i < n → M i i = 0 := by
      intro k
      induction k with
      | zero => exact fun _ => .inr ⟨_, Wf.start (fun i j hi hj => dm_lo h hi hj), h0⟩
      | succ k ih =>
        intro hk
        rcases ih (by omega) with h1 | ⟨M, h1, h3⟩
        · exact .inl h1
        · by_cases h2 : ∀ i, i < n → 0 ≤ stp (-20001) k M i i
          · exact .inr ⟨_, h1.step (by omega) (fun i j _ _ => dm_hi n b i j) (h3 k (by omega)) (by omega) h2, fun i hi => by
              have := h2 i hi; have := h3 i hi; have := stp_le (c := -20001) (M := M) (k := k) (i := i) (j := i); omega⟩
          · simp only [Classical.not_forall, Int.not_le] at h2
            obtain ⟨i, hi, h2⟩ := h2
            exact .inl (neg_empty (fun v hv => stp_sat (by omega) (h1.so v hv)) hi h2)
    rcases all n (Nat.le_refl _) with h1 | ⟨M, h1, h2⟩
    · exact ⟨none, h1⟩
    · exact ⟨_, ClR.some (h1.closed (by omega) (fun i j _ _ => dm_hi n b i j) h2)⟩
  · simp only [Classical.not_forall] at h0
    obtain ⟨i, hi, h0⟩ := h0
    have := dm_self_le n b i
    exact ⟨none, neg_empty (fun _ h => h) hi (by omega)⟩
/-- The closed bounds, if there are assignments. -/
noncomputable def cls (n : Nat) (b : List Int) : Option (List Int) := open Classical in if h : ∃ r, ClR n b r then h.choose else none
theorem cls_ok {n : Nat} {b : List Int} (h : Zv n b) : ClR n b (cls n b) := by
  unfold cls
  rw [dif_pos (ClR.ex h)]
  exact (ClR.ex h).choose_spec
theorem ClR.cls {n : Nat} {b : List Int} {r : Option (List Int)} (h : Zv n b) (hr : ClR n b r) : cls n b = r := (cls_ok h).uniq h.pos hr
/-- What closing a zone tells. -/
noncomputable def closeR (N : Int) (b : List Int) : Option (List Int) := if zvB N b = true then cls (N + 1).toNat b else none
theorem closeR_v {n : Nat} {b : List Int} (h : Zv n b) : closeR ((n : Int) - 1) b = cls n b := by
  unfold closeR
  rw [if_pos h.val, show ((n : Int) - 1 + 1).toNat = n by omega]
theorem closeR_bad {N : Int} {b : List Int} (h : zvB N b = false) : closeR N b = none := by unfold closeR; rw [h]; rfl
/-! ## The program's rounds: it stops at the first negative cycle -/
def lbB (k : Nat) : Int := -(20001 * 2 ^ k)
theorem lbB_succ (k : Nat) : lbB (k + 1) = 2 * lbB k := by unfold lbB; rw [Int.pow_succ]; omega
theorem lbB_neg (k : Nat) : lbB k ≤ 0 := by
  have : (0 : Int) ≤ 2 ^ k := Int.le_of_lt (Int.pow_pos (by decide))
  unfold lbB; omega
theorem lbB_big : ∀ k, k ≤ 26 → -10000000000000 ≤ lbB k := by decide
def cB : Int := -20000000000000
/-- Behind k rounds of the program. -/
def OI (n : Nat) (D : Nat → Nat → Int) (k : Nat) (M : Nat → Nat → Int) : Prop :=
  (Wf n cB D k M ∧ (∀ i j, i < n → j < n → lbB k ≤ M i j) ∧ ∀ i, i < n → (1 ≤ k ∨ i = 0) → M i i = 0) ∨ (k = 0 ∧ M = D ∧ D 0 0 < 0)
/-- A row can be gone through. -/
def RowOk (n k i : Nat) (G M : Nat → Nat → Int) : Prop :=
  ∀ j, j < n → (-40000000000000 ≤ gt n (mixL n G M (i * n + j)) i k + gt n (mixL n G M (i * n + j)) k j ∧ gt n (mixL n G M (i * n + j)) i k + gt n (mixL n G M (i * n + j)) k j ≤ 40000) ∧ min (M i j) (gt n (mixL n G M (i * n + j)) i k + gt n (mixL n G M (i * n + j)) k j) = G i j
structure Dok (n : Nat) (D : Nat → Nat → Int) : Prop where
  pos : 1 ≤ n
  few : n ≤ 25
  lo : ∀ i j, i < n → j < n → -20001 ≤ D i j
  hi : ∀ i j, i < n → j < n → D i j ≤ 20000
  dg : ∀ i, i < n → D i i ≤ 0
theorem Zv.dok {n : Nat} {b : List Int} (h : Zv n b) : Dok n (dm n b) := ⟨h.pos, h.few, fun _ _ hi hj => dm_lo h hi hj, fun i j _ _ => dm_hi n b i j, fun i _ => dm_self_le n b i⟩
theorem OI.start {n : Nat} {D : Nat → Nat → Int} (h : Dok n D) : OI n D 0 D := by
  by_cases h0 : D 0 0 < 0
  · exact .inr ⟨rfl, rfl, h0⟩
  · refine .inl ⟨Wf.start fun i j hi hj => ?_, fun i j hi hj => ?_, fun i hi hk => ?_⟩
    · have := h.lo i j hi hj; unfold cB; omega
    · exact h.lo i j hi hj
    · obtain rfl : i = 0 := by omega
      have := h.dg 0 hi
      omega
theorem OI.fin {n : Nat} {D M : Nat → Nat → Int} (hD : Dok n D) (h : OI n D n M) : IsCl n D M := by
  have := hD.pos
  rcases h with ⟨h1, h2, h3⟩ | ⟨h1, _⟩
  · exact h1.closed (by unfold cB; omega) hD.hi fun i hi => h3 i hi (by omega)
  · omega
theorem OI.step {n : Nat} {D M : Nat → Nat → Int} {k : Nat} (hD : Dok n D) (h : OI n D k M) (hk : k < n) :
    ∃ G, (∀ i, i < n → (∀ q, q < i → 0 ≤ G q q) → RowOk n k i G M) ∧ ((∀ i, i < n → 0 ≤ G i i) → OI n D (k + 1) G) ∧ ∀ i, i < n → G i i < 0 → ∀ v, ¬ Sat n D v := by
  have hfew := hD.few
  rcases h with ⟨h1, h2, h3⟩ | ⟨rfl, rfl, h0⟩
  · have hkk := h3 k hk (by omega)
    have hneg := lbB_neg k
    have hbig := lbB_big k (by omega)
    refine ⟨stp cB k M, fun i hi _ j hj => ?_, fun hp => .inl ⟨h1.step (by unfold cB; omega) hD.hi hkk hk hp, fun i j hi hj => ?_, fun i hi _ => ?_⟩, fun i hi hn => neg_empty (fun v hv => stp_sat hk (h1.so v hv)) hi hn⟩
    · rw [mix_same (stp_row h1 hkk hk hi) _ hi hk, mix_same (stp_col h1 hkk hk hj) _ hk hj]
      have a1 := h2 i k hi hk; have a2 := h2 k j hk hj
      have a3 := h1.le i k hi hk; have a4 := h1.le k j hk hj
      have a5 := hD.hi i k hi hk; have a6 := hD.hi k j hk hj
      refine ⟨by omega, ?_⟩
      unfold stp cB; omega
    · rw [lbB_succ]
      exact stp_lo (h2 i j hi hj) (h2 i k hi hk) (h2 k j hk hj) hneg
    · have a1 := hp i hi
      have a2 := h1.le i i hi hi; have a3 := hD.dg i hi
      have a4 := stp_le (c := cB) (M := M) (k := k) (i := i) (j := i)
      omega
  · refine ⟨fun _ j => if j = 0 then 2 * M 0 0 else 2 * M 0 0 + M 0 j, fun i hi hq j hj => ?_, fun hp => ?_, fun _ _ _ => neg_empty (fun _ h => h) hk h0⟩
    · have hi0 : i = 0 := by
        rcases Nat.eq_zero_or_pos i with h | h
        · exact h
        · have := hq 0 h
          simp only [if_pos] at this
          omega
      subst hi0
      have b0 := hD.lo 0 0 hk hk; have b1 := hD.lo 0 j hk hj; have b2 := hD.hi 0 j hk hj
      have e2 : gt n (mixL n (fun _ j => if j = 0 then 2 * M 0 0 else 2 * M 0 0 + M 0 j) M (0 * n + j)) 0 j = M 0 j := mix_new _ _ hk hj
      rw [e2]
      by_cases hj0 : j = 0
      · subst hj0
        rw [e2]
        refine ⟨by omega, ?_⟩
        show _ = if (0 : Nat) = 0 then _ else _
        rw [if_pos rfl]
        omega
      · rw [mix_old _ _ hk hk (by omega), if_pos rfl]
        refine ⟨by omega, ?_⟩
        show _ = if j = 0 then _ else _
        rw [if_neg hj0]
        omega
    · have := hp 0 hk
      simp only [if_pos] at this
      omega
end Go.Proofs.Yteoddcamicmapaa
