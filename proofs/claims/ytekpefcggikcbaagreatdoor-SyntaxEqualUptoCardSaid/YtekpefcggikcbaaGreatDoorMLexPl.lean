/- Layer 9: plain facts of tokens: what stands behind them, and cutting ahead of them. -/
import Derived.Test.YtekpefcggikcbaaGreatDoorMLexTks
namespace Go.Proofs.YtekpefcggikcbaaGreatDoor
/- Layer 9: plain facts of tokens: what stands behind them, and cutting ahead of them. -/
theorem spn_app (p : Nat → Bool) : ∀ x y : List UInt8, spn p (x ++ y) = if spn p x < x.length then spn p x else x.length + spn p y
 | [], y => by simp [spn]
 | c :: r, y => by
  rw [List.cons_append, spn, spn]
  by_cases h : p c.toNat = true
  ·rw [if_pos h, if_pos h, spn_app p r y]
   by_cases h2 : spn p r < r.length
   ·rw [if_pos h2, if_pos (by simp; omega)]
   ·rw [if_neg h2, if_neg (by simp; omega)]; simp; omega
  ·rw [if_neg h, if_neg h, if_pos (by simp)]
theorem spn_ext {p : Nat → Bool} (x : List UInt8) {y : List UInt8} (h : p (nxt y) = false) : spn p (x ++ y) = spn p x := by
 rw [spn_app]
 have h0 : spn p y = 0 := by
  cases y with
  | nil => rfl
  | cons c r => rw [spn, if_neg]; simpa [nxt] using h
 have := spn_le p x
 split <;> omega
theorem spn_cut {p : Nat → Bool} {x y : List UInt8} (h : spn p (x ++ y) ≤ x.length) : spn p x = spn p (x ++ y) := by
 have h1 := spn_app p x y
 have := spn_le p x
 split at h1 <;> omega
theorem nxt_app {x : List UInt8} (y : List UInt8) (h : x ≠ []) : nxt (x ++ y) = nxt x := by
 cases x with
 | nil => exact absurd rfl h
 | cons c r => rfl
theorem txt_ext : ∀ (x y t : List UInt8) (n : Nat), txt x = some (t, n) → txt (x ++ y) = some (t, n)
 | [], y, t, n, h => by simp [txt] at h
 | [c], y, t, n, h => by
  rw [txt_cons] at h
  rw [List.cons_append, txt_cons]
  by_cases h1 : c.toNat = 34
  ·rwa [if_pos h1] at h ⊢
  ·rw [if_neg h1] at h ⊢
   by_cases h2 : c.toNat = 92
   ·rw [if_pos h2] at h; simp at h
   ·rw [if_neg h2] at h
    split at h <;> simp [txt] at h
 | c :: d :: r, y, t, n, h => by
  rw [txt_cons] at h
  rw [List.cons_append, txt_cons]
  by_cases h1 : c.toNat = 34
  ·rwa [if_pos h1] at h ⊢
  ·rw [if_neg h1] at h ⊢
   by_cases h2 : c.toNat = 92
   ·rw [if_pos h2] at h ⊢
    simp only [List.cons_append] at h ⊢
    by_cases h3 : cE d.toNat = true
    ·rw [if_pos h3] at h ⊢
     cases hr : txt r with
     | none => simp [hr] at h
     | some z => rw [txt_ext r y z.1 z.2 hr]; rwa [hr] at h
    ·rw [if_neg h3] at h; simp at h
   ·rw [if_neg h2] at h ⊢
    by_cases h3 : 32 ≤ c.toNat ∧ c.toNat ≤ 126
    ·rw [if_pos h3] at h ⊢
     cases hr : txt (d :: r) with
     | none => simp [hr] at h
     | some z => rw [txt_ext (d :: r) y z.1 z.2 hr]; rwa [hr] at h
    ·rw [if_neg h3] at h; simp at h
theorem txt_bad : ∀ (x b : List UInt8), txt x = none → txt (x ++ 10 :: b) = none
 | [], b, _ => by
  rw [List.nil_append, txt_cons, if_neg (by decide), if_neg (by decide), if_neg (by decide)]
 | [c], b, h => by
  rw [txt_cons] at h
  rw [List.cons_append, txt_cons]
  by_cases h1 : c.toNat = 34
  ·rw [if_pos h1] at h; cases h
  ·rw [if_neg h1]
   by_cases h2 : c.toNat = 92
   ·rw [if_pos h2]
    simp only [List.nil_append]
    rw [if_neg (by decide)]
   ·rw [if_neg h2]
    split
    ·rw [txt_bad [] b rfl]; rfl
    ·rfl
 | c :: d :: r, b, h => by
  rw [txt_cons] at h
  rw [List.cons_append, txt_cons]
  by_cases h1 : c.toNat = 34
  ·rw [if_pos h1] at h; cases h
  ·rw [if_neg h1] at h ⊢
   by_cases h2 : c.toNat = 92
   ·rw [if_pos h2] at h ⊢
    simp only [List.cons_append] at h ⊢
    by_cases h3 : cE d.toNat = true
    ·rw [if_pos h3] at h ⊢
     rw [txt_bad r b (by simpa using h)]; rfl
    ·rw [if_neg h3]
   ·rw [if_neg h2] at h ⊢
    by_cases h3 : 32 ≤ c.toNat ∧ c.toNat ≤ 126
    ·rw [if_pos h3] at h ⊢
     rw [txt_bad (d :: r) b (by simpa using h)]; rfl
    ·rw [if_neg h3]
theorem txt_cut : ∀ (x y t : List UInt8) (n : Nat), txt (x ++ y) = some (t, n) → n ≤ x.length → txt x = some (t, n)
 | [], y, t, n, h, hn => by
  have := txt_len _ _ _ h
  simp at hn; omega
 | [c], y, t, n, h, hn => by
  rw [List.cons_append, txt_cons] at h
  rw [txt_cons]
  by_cases h1 : c.toNat = 34
  ·rwa [if_pos h1] at h ⊢
  ·rw [if_neg h1] at h ⊢
   simp at hn
   by_cases h2 : c.toNat = 92
   ·rw [if_pos h2, List.nil_append] at h
    cases y with
    | nil => simp at h
    | cons d r =>
     simp only at h
     split at h
     ·cases hr : txt r with
      | none => simp [hr] at h
      | some z =>
       have := txt_len _ z.1 z.2 hr
       simp only [hr, Option.map_some, Option.some.injEq, Prod.mk.injEq] at h
       omega
     ·simp at h
   ·rw [if_neg h2, List.nil_append] at h
    split at h
    ·cases hr : txt y with
     | none => simp [hr] at h
     | some z =>
      have := txt_len _ z.1 z.2 hr
      simp only [hr, Option.map_some, Option.some.injEq, Prod.mk.injEq] at h
      omega
    ·simp at h
 | c :: d :: r, y, t, n, h, hn => by
  rw [List.cons_append, txt_cons] at h
  rw [txt_cons]
  by_cases h1 : c.toNat = 34
  ·rwa [if_pos h1] at h ⊢
  ·rw [if_neg h1] at h ⊢
   by_cases h2 : c.toNat = 92
   ·rw [if_pos h2] at h ⊢
    simp only [List.cons_append] at h ⊢
    by_cases h3 : cE d.toNat = true
    ·rw [if_pos h3] at h ⊢
     cases hr : txt (r ++ y) with
     | none => simp [hr] at h
     | some z =>
      rw [hr] at h
      have hz : z.2 + 2 = n := by simp only [Option.map_some, Option.some.injEq, Prod.mk.injEq] at h; exact h.2
      rw [txt_cut r y z.1 z.2 hr (by simp at hn; omega)]; exact h
    ·rw [if_neg h3] at h; simp at h
   ·rw [if_neg h2] at h ⊢
    by_cases h3 : 32 ≤ c.toNat ∧ c.toNat ≤ 126
    ·rw [if_pos h3] at h ⊢
     cases hr : txt (d :: r ++ y) with
     | none => rw [hr] at h; cases h
     | some z =>
      rw [hr] at h
      have hz : z.2 + 1 = n := by simp only [Option.map_some, Option.some.injEq, Prod.mk.injEq] at h; exact h.2
      rw [txt_cut (d :: r) y z.1 z.2 hr (by simp at hn ⊢; omega)]; exact h
    ·rw [if_neg h3] at h; simp at h
def Sep (c : UInt8) : Prop := c = 10 ∨ c = 32 ∨ c = 9 ∨ c = 13
theorem Sep.n {c : UInt8} (h : Sep c) (b : List UInt8) : cN (nxt (c :: b)) = false ∧ cD (nxt (c :: b)) = false := by
 rcases h with rfl | rfl | rfl | rfl <;> exact ⟨rfl, rfl⟩
theorem isMk_sep (a : UInt8) {c : UInt8} (h : Sep c) : isMk [a, c] = false := by
 rcases h with rfl | rfl | rfl | rfl <;> simp [isMk, marks]
theorem tkMark_ext {x : List UInt8} (hx : x ≠ []) {c : UInt8} (b : List UInt8) (h : Sep c) : tkMark (x ++ c :: b) = tkMark x := by
 match x, hx with
 | [a], _ =>
  unfold tkMark
  have h1 : ([a] ++ c :: b).take 2 = [a, c] := rfl
  have h2 : ([a] ++ c :: b).take 1 = [a] := rfl
  rw [h1, h2, isMk_sep a h]
  simp
 | a :: d :: r, _ =>
  unfold tkMark
  simp
theorem tkMark_cut {x y : List UInt8} {k v m : Nat} {t : List UInt8} (h : tkMark (x ++ y) = .ok k t v m) (hm : m ≤ x.length) : tkMark x = .ok k t v m := by
 match x with
 | [] =>
  unfold tkMark at h
  split at h
  ·simp only [Tk.ok.injEq] at h; simp at hm; omega
  ·split at h
   ·simp only [Tk.ok.injEq] at h; simp at hm; omega
   ·cases h
 | [a] =>
  unfold tkMark at h ⊢
  split at h
  ·simp only [Tk.ok.injEq] at h; simp at hm; omega
  ·split at h
   ·rename_i h2
    rw [if_neg (by simp), if_pos ⟨by simp, h2.2⟩]
    exact h
   ·cases h
 | a :: d :: r =>
  unfold tkMark at h ⊢
  simpa using h
theorem tkNum_ext {x : List UInt8} (hx : x ≠ []) {c : UInt8} (b : List UInt8) (h : Sep c) : tkNum (x ++ c :: b) = tkNum x := by
 obtain ⟨h1, h2⟩ := h.n b
 have hs := spn_ext (p := cD) x h2
 have hle := spn_le cD x
 have e1 : cN (nxt ((x ++ c :: b).drop (spn cD x))) = cN (nxt (x.drop (spn cD x))) := by
  rw [List.drop_append_of_le_length hle]
  by_cases e : x.drop (spn cD x) = []
  ·rw [e, List.nil_append, h1]; rfl
  ·rw [nxt_app _ e]
 unfold tkNum
 rw [hs, e1, nxt_app _ hx, List.take_append_of_le_length hle]
theorem tkNum_cut {x y : List UInt8} {k v m : Nat} {t : List UInt8} (hx : x ≠ []) (h : tkNum (x ++ y) = .ok k t v m) (hm : m ≤ x.length) : tkNum x = .ok k t v m := by
 have hlen : spn cD (x ++ y) ≤ x.length := by
  unfold tkNum at h
  split at h
  ·cases h
  ·split at h
   ·cases h
   ·simp only [Tk.ok.injEq] at h; omega
 have hs := spn_cut hlen
 unfold tkNum at h ⊢
 rw [← hs] at h
 rw [← hs] at hlen
 rw [nxt_app _ hx, List.take_append_of_le_length hlen, List.drop_append_of_le_length hlen] at h
 split at h
 ·cases h
 ·rename_i h1
  rw [if_neg]
  ·exact h
  ·by_cases e : x.drop (spn cD x) = []
   ·rw [e]; decide
   ·rwa [nxt_app _ e] at h1
theorem tkName_ext (x : List UInt8) {c : UInt8} (b : List UInt8) (h : Sep c) : tkName (x ++ c :: b) = tkName x := by
 have hs := spn_ext (p := cN) x (h.n b).1
 unfold tkName
 rw [hs, List.take_append_of_le_length (spn_le cN x)]
theorem tkName_cut {x y : List UInt8} {k v m : Nat} {t : List UInt8} (h : tkName (x ++ y) = .ok k t v m) (hm : m ≤ x.length) : tkName x = .ok k t v m := by
 have hlen : spn cN (x ++ y) ≤ x.length := by
  unfold tkName at h
  split at h
  ·cases h
  ·simp only [Tk.ok.injEq] at h; omega
 have hs := spn_cut hlen
 unfold tkName at h ⊢
 rw [← hs] at h
 rw [← hs] at hlen
 rwa [List.take_append_of_le_length hlen] at h
theorem tk_ext {x : List UInt8} (hx : x ≠ []) {k v m : Nat} {t : List UInt8} (h : tk x = .ok k t v m) {c : UInt8} (b : List UInt8) (hc : Sep c) : tk (x ++ c :: b) = .ok k t v m := by
 unfold tk at h ⊢
 rw [nxt_app _ hx]
 by_cases h1 : cL (nxt x) = true
 ·rw [if_pos h1] at h ⊢; rwa [tkName_ext _ _ hc]
 ·rw [if_neg h1] at h ⊢
  by_cases h2 : cD (nxt x) = true
  ·rw [if_pos h2] at h ⊢; rwa [tkNum_ext hx _ hc]
  ·rw [if_neg h2] at h ⊢
   by_cases h3 : nxt x = 34
   ·rw [if_pos h3] at h ⊢
    have e : (x ++ c :: b).tail = x.tail ++ c :: b := by cases x with | nil => exact absurd rfl hx | cons a r => rfl
    rw [e]
    unfold tkText at h ⊢
    cases ht : txt x.tail with
    | none => rw [ht] at h; cases h
    | some z => rw [txt_ext _ _ z.1 z.2 ht]; rwa [ht] at h
   ·rw [if_neg h3] at h ⊢; rwa [tkMark_ext hx _ hc]
theorem tk_bad {x : List UInt8} (hx : x ≠ []) {e : Nat} (h : tk x = .err e) (b : List UInt8) : tk (x ++ 10 :: b) = .err e := by
 have hc : Sep 10 := .inl rfl
 unfold tk at h ⊢
 rw [nxt_app _ hx]
 by_cases h1 : cL (nxt x) = true
 ·rw [if_pos h1] at h ⊢; rwa [tkName_ext _ _ hc]
 ·rw [if_neg h1] at h ⊢
  by_cases h2 : cD (nxt x) = true
  ·rw [if_pos h2] at h ⊢; rwa [tkNum_ext hx _ hc]
  ·rw [if_neg h2] at h ⊢
   by_cases h3 : nxt x = 34
   ·rw [if_pos h3] at h ⊢
    have e : (x ++ 10 :: b).tail = x.tail ++ 10 :: b := by cases x with | nil => exact absurd rfl hx | cons a r => rfl
    rw [e]
    unfold tkText at h ⊢
    cases ht : txt x.tail with
    | none => rw [txt_bad _ _ ht]; rwa [ht] at h
    | some z => rw [txt_ext _ _ z.1 z.2 ht]; rwa [ht] at h
   ·rw [if_neg h3] at h ⊢; rwa [tkMark_ext hx _ hc]
theorem tk_cut {x y : List UInt8} {k v m : Nat} {t : List UInt8} (h : tk (x ++ y) = .ok k t v m) (hm : m ≤ x.length) : tk x = .ok k t v m := by
 have h1m := (tk_len h).1
 have hx : x ≠ [] := by intro e; rw [e] at hm; simp at hm; omega
 unfold tk at h ⊢
 rw [nxt_app _ hx] at h
 by_cases h1 : cL (nxt x) = true
 ·rw [if_pos h1] at h ⊢; exact tkName_cut h hm
 ·rw [if_neg h1] at h ⊢
  by_cases h2 : cD (nxt x) = true
  ·rw [if_pos h2] at h ⊢; exact tkNum_cut hx h hm
  ·rw [if_neg h2] at h ⊢
   by_cases h3 : nxt x = 34
   ·rw [if_pos h3] at h ⊢
    have e : (x ++ y).tail = x.tail ++ y := by cases x with | nil => exact absurd rfl hx | cons a r => rfl
    rw [e] at h
    unfold tkText at h ⊢
    cases ht : txt (x.tail ++ y) with
    | none => rw [ht] at h; cases h
    | some z =>
     rw [ht] at h
     simp only at h
     have hz : z.2 + 1 = m := by
      split at h
      ·cases h
      ·simp only [Tk.ok.injEq] at h; omega
     have hxl : x.tail.length + 1 = x.length := by cases x with | nil => exact absurd rfl hx | cons a r => simp
     rw [txt_cut _ _ z.1 z.2 ht (by omega)]
     exact h
   ·rw [if_neg h3] at h ⊢; exact tkMark_cut h hm
theorem sk_ext : ∀ (i : Bool) (x b : List UInt8), sk i (x ++ 10 :: b) = if sk i x < x.length then sk i x else x.length + 1 + sk false b
 | true, [], b => by simp [sk]; omega
 | false, [], b => by simp [sk, cB]; omega
 | true, c :: r, b => by
  rw [List.cons_append, sk, sk]
  by_cases h : c.toNat = 10
  ·rw [if_pos h, if_pos h, sk_ext false r b]
   by_cases h2 : sk false r < r.length
   ·rw [if_pos h2, if_pos (by simp; omega)]
   ·rw [if_neg h2, if_neg (by simp; omega)]; simp; omega
  ·rw [if_neg h, if_neg h, sk_ext true r b]
   by_cases h2 : sk true r < r.length
   ·rw [if_pos h2, if_pos (by simp; omega)]
   ·rw [if_neg h2, if_neg (by simp; omega)]; simp; omega
 | false, c :: r, b => by
  rw [List.cons_append, sk, sk]
  by_cases h : cB c.toNat = true
  ·rw [if_pos h, if_pos h, sk_ext false r b]
   by_cases h2 : sk false r < r.length
   ·rw [if_pos h2, if_pos (by simp; omega)]
   ·rw [if_neg h2, if_neg (by simp; omega)]; simp; omega
  ·rw [if_neg h, if_neg h]
   have e : (c.toNat = 47 ∧ nxt (r ++ 10 :: b) = 47) ↔ (c.toNat = 47 ∧ nxt r = 47) := by
    cases r with
    | nil => simp [nxt]
    | cons d r' => rfl
   by_cases h3 : c.toNat = 47 ∧ nxt r = 47
   ·rw [if_pos (e.2 h3), if_pos h3, sk_ext true r b]
    by_cases h2 : sk true r < r.length
    ·rw [if_pos h2, if_pos (by simp; omega)]
    ·rw [if_neg h2, if_neg (by simp; omega)]; simp; omega
   ·rw [if_neg (fun h => h3 (e.1 h)), if_neg h3, if_pos (by simp)]
theorem sk_take : ∀ (i : Bool) (l : List UInt8) (x : Nat), sk i l ≤ x → sk i (l.take x) = sk i l
 | i, [], x, _ => by simp
 | i, c :: r, 0, h => by
  have : sk i (c :: r) = 0 := by omega
  rw [this, List.take_zero]; cases i <;> rfl
 | true, c :: r, x + 1, h => by
  rw [List.take_succ_cons, sk, sk]
  rw [sk] at h
  by_cases h1 : c.toNat = 10
  ·rw [if_pos h1] at h ⊢; rw [if_pos h1, sk_take false r x (by omega)]
  ·rw [if_neg h1] at h ⊢; rw [if_neg h1, sk_take true r x (by omega)]
 | false, c :: r, x + 1, h => by
  rw [List.take_succ_cons, sk, sk]
  rw [sk] at h
  by_cases h1 : cB c.toNat = true
  ·rw [if_pos h1] at h ⊢; rw [if_pos h1, sk_take false r x (by omega)]
  ·rw [if_neg h1] at h ⊢
   rw [if_neg h1]
   by_cases h3 : c.toNat = 47 ∧ nxt r = 47
   ·rw [if_pos h3] at h ⊢
    obtain ⟨d, r', rfl⟩ := nxt_pos (l := r) (by omega)
    have hd : d.toNat = 47 := h3.2
    have h1' : 1 ≤ sk true (d :: r') := by rw [sk, if_neg (by omega)]; omega
    obtain ⟨x', rfl⟩ : ∃ x', x = x' + 1 := ⟨x - 1, by omega⟩
    rw [if_pos ⟨h3.1, by rw [List.take_succ_cons]; exact hd⟩, sk_take true (d :: r') (x' + 1) (by omega)]
   ·rw [if_neg h3, if_neg]
    rintro ⟨h4, h5⟩
    refine h3 ⟨h4, ?_⟩
    cases x with
    | zero => simp [nxt] at h5
    | succ x' =>
     cases r with
     | nil => simp [nxt] at h5
     | cons d r' => exact h5
/- Layer 9: plain facts of lists of tokens: places, parts. -/
/-- One token behind the other: the induction. -/
theorem lxs_ind {P : Nat → List UInt8 → Res → Prop}
  (hend : ∀ o l, sk false l = l.length → P o l ([], 0, 0))
  (herr : ∀ o l e, sk false l < l.length → tk (l.drop (sk false l)) = .err e → P o l ([], o + sk false l, e))
  (hok : ∀ o l k t v m, sk false l < l.length → tk (l.drop (sk false l)) = .ok k t v m → P (o + sk false l + m) ((l.drop (sk false l)).drop m) (lxs (o + sk false l + m) ((l.drop (sk false l)).drop m)) →
   P o l (push ⟨k, t, v, o + sk false l⟩ (lxs (o + sk false l + m) ((l.drop (sk false l)).drop m)))) :
  ∀ o l, P o l (lxs o l) := by
 suffices h : ∀ n o l, l.length ≤ n → P o l (lxs o l) from fun o l => h l.length o l (Nat.le_refl _)
 intro n
 induction n with
 | zero =>
  intro o l hl
  have : sk false l = l.length := by have := sk_le false l; omega
  rw [lxs_end this]; exact hend o l this
 | succ n ih =>
  intro o l hl
  have hle := sk_le false l
  by_cases hs : sk false l = l.length
  ·rw [lxs_end hs]; exact hend o l hs
  ·cases ht : tk (l.drop (sk false l)) with
   | err e => rw [lxs_err hs ht]; exact herr o l e (by omega) ht
   | ok k t v m =>
    have hm := (tk_len ht).1
    rw [lxs_ok hs ht]
    exact hok o l k t v m (by omega) ht (ih _ _ (by simp; omega))
theorem lxs_bad : ∀ o l, ((lxs o l).2.2 ≠ 0 → (lxs o l).1 = []) ∧ ((lxs o l).2.2 = 0 → (lxs o l).2.1 = 0) := by
 refine lxs_ind (P := fun _ _ r => (r.2.2 ≠ 0 → r.1 = []) ∧ (r.2.2 = 0 → r.2.1 = 0)) ?_ ?_ ?_
 ·intro o l _; exact ⟨fun _ => rfl, fun _ => rfl⟩
 ·intro o l e _ ht
  exact ⟨fun _ => rfl, fun h => absurd h (by have := tk_errn ht; exact this)⟩
 ·intro o l k t v m _ _ ih
  unfold push
  by_cases h : (lxs (o + sk false l + m) ((l.drop (sk false l)).drop m)).2.2 = 0
  ·rw [if_pos h]; exact ⟨fun h2 => absurd h h2, fun _ => ih.2 h⟩
  ·rw [if_neg h]; exact ih
theorem lxs_len : ∀ o l, (lxs o l).1.length ≤ l.length := by
 refine lxs_ind (P := fun _ l r => r.1.length ≤ l.length) ?_ ?_ ?_
 ·intro o l _; simp
 ·intro o l e _ _; simp
 ·intro o l k t v m hs ht ih
  have hm := (tk_len ht).1
  generalize lxs (o + sk false l + m) ((l.drop (sk false l)).drop m) = R at ih ⊢
  unfold push
  simp only [List.length_drop] at ih hm
  have hm2 := (tk_len ht).2
  rw [List.length_drop] at hm2
  split
  ·simp; omega
  ·omega
theorem lxs_at : ∀ o l, (lxs o l).2.1 ≤ o + l.length := by
 refine lxs_ind (P := fun o l r => r.2.1 ≤ o + l.length) ?_ ?_ ?_
 ·intro o l _; simp
 ·intro o l e h _; simp only; omega
 ·intro o l k t v m hs ht ih
  have hm := tk_len ht
  generalize lxs (o + sk false l + m) ((l.drop (sk false l)).drop m) = R at ih ⊢
  unfold push
  simp only [List.length_drop] at ih hm
  split
  ·simp only; omega
  ·omega
/-- The places are those of the first byte's. -/
def sh (d : Nat) (r : Res) : Res := (r.1.map fun t => ⟨t.k, t.t, t.v, t.p + d⟩, if r.2.2 = 0 then r.2.1 else r.2.1 + d, r.2.2)
theorem lxs_shift (d : Nat) : ∀ o l, lxs (o + d) l = sh d (lxs o l) := by
 refine lxs_ind (P := fun o l r => lxs (o + d) l = sh d r) ?_ ?_ ?_
 ·intro o l h; rw [lxs_end h]; rfl
 ·intro o l e h ht
  rw [lxs_err (by omega) ht]
  have := tk_errn ht
  unfold sh
  simp [this]; omega
 ·intro o l k t v m h ht ih
  rw [lxs_ok (by omega) ht]
  have e1 : o + d + sk false l + m = o + sk false l + m + d := by omega
  rw [e1, ih]
  generalize lxs (o + sk false l + m) ((l.drop (sk false l)).drop m) = R
  have e2 : o + d + sk false l = o + sk false l + d := by omega
  rw [e2]
  unfold push sh
  by_cases h2 : R.2.2 = 0
  ·simp [h2]
  ·simp [h2]
theorem lxs_places : ∀ o l, (lxs o l).2.2 = 0 → (∀ (j : Nat) (t : Tok), (lxs o l).1[j]? = some t → o ≤ t.p ∧ t.p < o + l.length) ∧
  (∀ (j : Nat) (s t : Tok), (lxs o l).1[j]? = some s → (lxs o l).1[j + 1]? = some t → s.p < t.p) ∧
  ∀ (j : Nat) (t : Tok), (lxs o l).1[j]? = some t → lxs o (l.take (t.p - o)) = ((lxs o l).1.take j, 0, 0) := by
 refine lxs_ind (P := fun o l r => r.2.2 = 0 → (∀ (j : Nat) (t : Tok), r.1[j]? = some t → o ≤ t.p ∧ t.p < o + l.length) ∧
  (∀ (j : Nat) (s t : Tok), r.1[j]? = some s → r.1[j + 1]? = some t → s.p < t.p) ∧
  ∀ (j : Nat) (t : Tok), r.1[j]? = some t → lxs o (l.take (t.p - o)) = (r.1.take j, 0, 0)) ?_ ?_ ?_
 ·intro o l _ _
  refine ⟨fun j t h => ?_, fun j s t h => ?_, fun j t h => ?_⟩ <;> simp at h
 ·intro o l e _ ht h
  exact absurd h (tk_errn ht)
 ·intro o l k t v m hs ht ih
  obtain ⟨hm1, hm2⟩ := tk_len ht
  have hl0 := sk_le false l
  generalize hR : lxs (o + sk false l + m) ((l.drop (sk false l)).drop m) = R at ih ⊢
  unfold push
  by_cases h2 : R.2.2 = 0
  ·rw [if_pos h2]
   intro _
   obtain ⟨i1, i2, i3⟩ := ih h2
   simp only [List.length_drop] at i1 hm2
   refine ⟨?_, ?_, ?_⟩
   ·intro j u hu
    cases j with
    | zero => simp at hu; subst hu; simp; omega
    | succ j => have := i1 j u (by simpa using hu); omega
   ·intro j a b ha hb
    cases j with
    | zero =>
     simp at ha; subst ha
     have := i1 0 b (by simpa using hb)
     simp; omega
    | succ j => exact i2 j a b (by simpa using ha) (by simpa using hb)
   ·intro j u hu
    cases j with
    | zero =>
     simp at hu; subst hu
     simp only [List.take_zero]
     rw [lxs_end]
     rw [sk_take _ _ _ (by omega), List.length_take]; omega
    | succ j =>
     have hj : R.1[j]? = some u := by simpa using hu
     have hp := i1 j u hj
     have h3 := i3 j u hj
     obtain ⟨q, hq⟩ : ∃ q, u.p - o = sk false l + m + q := ⟨u.p - o - (sk false l + m), by omega⟩
     have hskt : sk false (l.take (u.p - o)) = sk false l := sk_take _ _ _ (by omega)
     have hdrop : (l.take (u.p - o)).drop (sk false l) = (l.drop (sk false l)).take (m + q) := by
      rw [List.drop_take]; congr 1; omega
     have htk : tk ((l.drop (sk false l)).take (m + q)) = .ok k t v m := by
      refine tk_cut (y := (l.drop (sk false l)).drop (m + q)) ?_ ?_
      ·rw [List.take_append_drop]; exact ht
      ·rw [List.length_take, List.length_drop]; omega
     have hne : sk false (l.take (u.p - o)) ≠ (l.take (u.p - o)).length := by
      rw [hskt, List.length_take]; omega
     rw [lxs_ok (k := k) (t := t) (v := v) (m := m) hne (by rw [hskt, hdrop]; exact htk), hskt, hdrop, List.drop_take]
     have e1 : m + q - m = u.p - (o + sk false l + m) := by omega
     rw [e1, h3]
     rfl
  ·rw [if_neg h2]
   intro h3; exact absurd h3 h2
theorem lxs_parts (b : List UInt8) : ∀ o a, lxs o (a ++ 10 :: b) = if (lxs o a).2.2 = 0 then prep (lxs o a).1 (lxs (o + a.length + 1) b) else lxs o a := by
 refine lxs_ind (P := fun o a r => lxs o (a ++ 10 :: b) = if r.2.2 = 0 then prep r.1 (lxs (o + a.length + 1) b) else r) ?_ ?_ ?_
 ·intro o a h
  simp only [if_true]
  rw [prep_nil]
  have hs := sk_ext false a b
  rw [if_neg (by omega)] at hs
  rw [lxs_skip o, hs, lxs_skip (o + a.length + 1) b]
  congr 1
  ·omega
  ·rw [List.drop_append, List.drop_eq_nil_of_le (by omega), List.nil_append, show a.length + 1 + sk false b - a.length = sk false b + 1 by omega, List.drop_succ_cons]
 ·intro o a e h ht
  have hs := sk_ext false a b
  rw [if_pos h] at hs
  have hne : a.drop (sk false a) ≠ [] := by intro e; have := congrArg List.length e; simp at this; omega
  rw [if_neg (show (([], o + sk false a, e) : Res).2.2 ≠ 0 from tk_errn ht)]
  rw [lxs_err (e := e) (by rw [hs, List.length_append]; omega) (by rw [hs, List.drop_append_of_le_length (by omega)]; exact tk_bad hne ht b), hs]
 ·intro o a k t v m h ht ih
  obtain ⟨hm1, hm2⟩ := tk_len ht
  have hs := sk_ext false a b
  rw [if_pos h] at hs
  have hne : a.drop (sk false a) ≠ [] := by intro e; have := congrArg List.length e; simp at this; omega
  have hdr : (a ++ 10 :: b).drop (sk false a) = a.drop (sk false a) ++ 10 :: b := List.drop_append_of_le_length (by omega)
  rw [lxs_ok (k := k) (t := t) (v := v) (m := m) (by rw [hs, List.length_append]; simp; omega) (by rw [hs, hdr]; exact tk_ext hne ht b (.inl rfl)), hs, hdr, List.drop_append_of_le_length hm2, ih]
  have elen : o + sk false a + m + ((a.drop (sk false a)).drop m).length + 1 = o + a.length + 1 := by
   simp only [List.length_drop] at hm2 ⊢; omega
  rw [elen]
  generalize lxs (o + sk false a + m) ((a.drop (sk false a)).drop m) = R
  unfold push prep
  by_cases h2 : R.2.2 = 0
  ·simp only [h2, if_true]
   by_cases h3 : (lxs (o + a.length + 1) b).2.2 = 0
   ·simp [h3]
   ·simp [h3]
  ·simp [h2]
end Go.Proofs.YtekpefcggikcbaaGreatDoor
