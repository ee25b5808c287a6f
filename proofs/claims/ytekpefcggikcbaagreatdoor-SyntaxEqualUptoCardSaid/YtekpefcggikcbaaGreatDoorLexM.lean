/- Layer 9: what the functions answer, over lists of bytes. -/
import Derived.Test.YtekpefcggikcbaaGreatDoorRows
namespace Go.Proofs.YtekpefcggikcbaaGreatDoor

def cL (n : Nat) : Bool := (decide (97 ≤ n) && decide (n ≤ 122)) || (decide (65 ≤ n) && decide (n ≤ 90))
def cD (n : Nat) : Bool := decide (48 ≤ n) && decide (n ≤ 57)
def cN (n : Nat) : Bool := cL n || cD n || decide (n = 95)
def cB (n : Nat) : Bool := decide (n = 32) || decide (n = 9) || decide (n = 10) || decide (n = 13)
def cI (n : Nat) : Bool := !decide (n = 10)
def cE (n : Nat) : Bool := decide (n = 34) || decide (n = 92)
/-- How many bytes of one sort stand at the beginning. -/
def spn (p : Nat → Bool) : List UInt8 → Nat
  | [] => 0
  | c :: r => if p c.toNat = true then spn p r + 1 else 0
def nxt : List UInt8 → Nat
  | [] => 0
  | c :: _ => c.toNat
/-- How many bytes are blanks and comments; true: inside a comment. -/
def sk : Bool → List UInt8 → Nat
  | _, [] => 0
  | true, c :: r => if c.toNat = 10 then sk false r + 1 else sk true r + 1
  | false, c :: r => if cB c.toNat = true then sk false r + 1 else if c.toNat = 47 ∧ nxt r = 47 then sk true r + 1 else 0
theorem spn_le (p : Nat → Bool) : ∀ l, spn p l ≤ l.length
  | [] => by simp [spn]
  | c :: r => by have := spn_le p r; unfold spn; split <;> simp <;> omega
theorem sk_le : ∀ (b : Bool) (l : List UInt8), sk b l ≤ l.length
  | _, [] => by simp [sk]
  | true, c :: r => by have h1 := sk_le false r; have h2 := sk_le true r; unfold sk; split <;> simp <;> omega
  | false, c :: r => by have h1 := sk_le false r; have h2 := sk_le true r; unfold sk; split; · simp; omega
                        · split <;> simp; omega
theorem spn_mem {p : Nat → Bool} : ∀ {l : List UInt8} {k : Nat} {c : UInt8}, k < spn p l → l[k]? = some c → p c.toNat = true
  | [], k, c, h, _ => by simp [spn] at h
  | d :: r, 0, c, h, hc => by
    simp at hc; subst hc
    unfold spn at h; split at h
    · assumption
    · omega
  | d :: r, k + 1, c, h, hc => by
    unfold spn at h; split at h
    · exact spn_mem (l := r) (k := k) (by omega) (by simpa using hc)
    · omega
theorem spn_stop {p : Nat → Bool} : ∀ {l : List UInt8} {c : UInt8}, l[spn p l]? = some c → p c.toNat = false
  | [], c, h => by simp [spn] at h
  | d :: r, c, h => by
    unfold spn at h; split at h
    · exact spn_stop (l := r) (by simpa using h)
    · rename_i hd; simp at h; subst h; simpa using hd
/-- The number of bytes is what one says it is. -/
theorem spn_eq {p : Nat → Bool} : ∀ {l : List UInt8} {k : Nat}, k ≤ l.length → (∀ j c, j < k → l[j]? = some c → p c.toNat = true) → (∀ c, l[k]? = some c → p c.toNat = false) → spn p l = k
  | [], k, hk, _, _ => by simp at hk; simp [spn, hk]
  | d :: r, 0, _, _, h2 => by have := h2 d (by simp); simp [spn, this]
  | d :: r, k + 1, hk, h1, h2 => by
    have hd := h1 0 d (by omega) (by simp)
    simp at hk
    rw [spn, if_pos hd, spn_eq (l := r) (k := k) hk (fun j c hj hc => h1 (j + 1) c (by omega) (by simpa using hc)) (fun c hc => h2 c (by simpa using hc))]
theorem nxt_drop {l : List UInt8} {k : Nat} : nxt (l.drop k) = match l[k]? with | some c => c.toNat | none => 0 := by
  rw [← List.head?_drop]
  cases l.drop k <;> rfl
theorem spn_zero {p : Nat → Bool} {l : List UInt8} (h0 : p 0 = false) : p (nxt (l.drop (spn p l))) = false := by
  rw [nxt_drop]
  cases h : l[spn p l]? with
  | none => exact h0
  | some c => exact spn_stop h

theorem sk_blank : ∀ l : List UInt8, sk false l = spn cB l + sk false (l.drop (spn cB l))
  | [] => rfl
  | c :: r => by
    by_cases h : cB c.toNat = true
    · rw [sk, if_pos h, spn, if_pos h, List.drop_succ_cons, sk_blank r]; omega
    · rw [spn, if_neg h]; simp
theorem sk_line : ∀ l : List UInt8, sk true l = spn cI l + sk false (l.drop (spn cI l))
  | [] => rfl
  | c :: r => by
    by_cases h : c.toNat = 10
    · have h2 : cI c.toNat = false := by simp [cI, h]
      rw [sk, if_pos h, spn, if_neg (by simp [h2]), List.drop_zero, sk, if_pos (by simp [cB, h])]; omega
    · have h2 : cI c.toNat = true := by simp [cI, h]
      rw [sk, if_neg h, spn, if_pos h2, List.drop_succ_cons, sk_line r]; omega
theorem sk_slash {c : UInt8} {r : List UInt8} (h1 : c.toNat = 47) (h2 : nxt r = 47) : sk false (c :: r) = spn cI (c :: r) + sk false ((c :: r).drop (spn cI (c :: r))) := by
  rw [← sk_line]
  have e1 : sk true (c :: r) = sk true r + 1 := by rw [sk, if_neg (by omega)]
  have e2 : sk false (c :: r) = sk true r + 1 := by rw [sk, if_neg (by simp [cB, h1]), if_pos ⟨h1, h2⟩]
  rw [e1, e2]
theorem sk_none {c : UInt8} {r : List UInt8} (h0 : cB c.toNat = false) (h : ¬ (c.toNat = 47 ∧ nxt r = 47)) : sk false (c :: r) = 0 := by
  rw [sk, if_neg (by simp [h0]), if_neg h]
theorem sk_idem : ∀ (b : Bool) (l : List UInt8), sk false (l.drop (sk b l)) = 0
  | false, [] => rfl
  | true, [] => rfl
  | true, c :: r => by
    rw [sk]; split
    · rw [List.drop_succ_cons]; exact sk_idem false r
    · rw [List.drop_succ_cons]; exact sk_idem true r
  | false, c :: r => by
    by_cases h : cB c.toNat = true
    · rw [sk, if_pos h, List.drop_succ_cons]; exact sk_idem false r
    · by_cases h2 : c.toNat = 47 ∧ nxt r = 47
      · rw [sk, if_neg h, if_pos h2, List.drop_succ_cons]; exact sk_idem true r
      · have : sk false (c :: r) = 0 := by rw [sk, if_neg h, if_neg h2]
        rw [this, List.drop_zero, this]

/-- A token's beginning: its kind, text, value and length, or an error. -/
inductive Tk where
  | err (e : Nat)
  | ok (k : Nat) (t : List UInt8) (v : Nat) (n : Nat)
def numF (v : Nat) (l : List UInt8) : Nat := l.foldl (fun v c => 10 * v + (c.toNat - 48)) v
def tkName (l : List UInt8) : Tk := if 16 < spn cN l then .err 6 else .ok 1 (l.take (spn cN l)) 0 (spn cN l)
def tkNum (l : List UInt8) : Tk :=
  if cN (nxt (l.drop (spn cD l))) = true then .err 3
  else if 6 < spn cD l ∨ (1 < spn cD l ∧ nxt l = 48) then .err 2
  else .ok 2 [] (numF 0 (l.take (spn cD l))) (spn cD l)
/-- Behind the quotation mark: the bytes, and the length with the mark at the end. -/
def txt : List UInt8 → Option (List UInt8 × Nat)
  | [] => none
  | c :: r =>
    if c.toNat = 34 then some ([], 1)
    else if c.toNat = 92 then
      match r with
      | [] => none
      | d :: r' => if cE d.toNat = true then (txt r').map fun x => (d :: x.1, x.2 + 2) else none
    else if 32 ≤ c.toNat ∧ c.toNat ≤ 126 then (txt r).map fun x => (c :: x.1, x.2 + 1) else none
def tkText (r : List UInt8) : Tk := match txt r with
  | none => .err 3
  | some (t, n) => if 40 < t.length then .err 6 else .ok 3 t 0 (n + 1)
def marks : List (List UInt8) := [[45, 62], [46, 46], [60, 61], [62, 61], [61, 61], [33, 61], [38, 38], [124, 124], [40], [41], [123], [125], [44], [59], [58], [46], [43], [45], [42], [47], [37], [60], [62], [61], [33]]
def isMk (l : List UInt8) : Bool := decide (l ∈ marks)
def tkMark (l : List UInt8) : Tk :=
  if 2 ≤ l.length ∧ isMk (l.take 2) = true then .ok 4 (l.take 2) 0 2
  else if 1 ≤ l.length ∧ isMk (l.take 1) = true then .ok 4 (l.take 1) 0 1
  else .err 3
def tk (l : List UInt8) : Tk :=
  if cL (nxt l) = true then tkName l else if cD (nxt l) = true then tkNum l else if nxt l = 34 then tkText l.tail else tkMark l

structure Tok where
  k : Nat
  t : List UInt8
  v : Nat
  p : Nat
deriving DecidableEq
abbrev Res := List Tok × Nat × Nat
def push (t : Tok) (r : Res) : Res := if r.2.2 = 0 then (t :: r.1, r.2) else r
def lx : Nat → Nat → List UInt8 → Res
  | 0, _, _ => ([], 0, 0)
  | f + 1, o, l =>
    if sk false l = l.length then ([], 0, 0) else
    match tk (l.drop (sk false l)) with
    | .err e => ([], o + sk false l, e)
    | .ok k t v m => push ⟨k, t, v, o + sk false l⟩ (lx f (o + sk false l + m) ((l.drop (sk false l)).drop m))
/-- What Tokens answers of the bytes l, the first of which has offset o. -/
def lxs (o : Nat) (l : List UInt8) : Res := lx (l.length + 1) o l

/-- A token is not empty, and no longer than what is there. -/
theorem txt_len : ∀ (l : List UInt8) (t : List UInt8) (n : Nat), txt l = some (t, n) → 1 ≤ n ∧ n ≤ l.length
  | [], t, n, h => by simp [txt] at h
  | [c], t, n, h => by
    unfold txt at h
    split at h
    · simp at h; simp; omega
    · split at h
      · simp at h
      · split at h <;> simp [txt] at h
  | c :: d :: r, t, n, h => by
    unfold txt at h
    split at h
    · simp at h; simp; omega
    · split at h
      · simp only at h
        split at h
        · cases hr : txt r with
          | none => simp [hr] at h
          | some x => 
            have := txt_len r x.1 x.2 hr
            simp [hr] at h; simp; omega
        · simp at h
      · split at h
        · cases hr : txt (d :: r) with
          | none => simp [hr] at h
          | some x =>
            have := txt_len (d :: r) x.1 x.2 hr
            simp [hr] at h; simp at this ⊢; omega
        · simp at h
theorem nxt_pos {l : List UInt8} (h : nxt l ≠ 0) : ∃ c r, l = c :: r := by
  cases l with
  | nil => simp [nxt] at h
  | cons c r => exact ⟨c, r, rfl⟩
theorem spn_pos {p : Nat → Bool} {l : List UInt8} (h0 : p 0 = false) (h : p (nxt l) = true) : 1 ≤ spn p l := by
  cases l with
  | nil => simp [nxt, h0] at h
  | cons c r => rw [spn, if_pos (by simpa [nxt] using h)]; omega
theorem tk_len {l : List UInt8} {k v m : Nat} {t : List UInt8} (h : tk l = .ok k t v m) : 1 ≤ m ∧ m ≤ l.length := by
  unfold tk at h
  split at h
  · rename_i hL
    unfold tkName at h
    split at h
    · cases h
    · simp only [Tk.ok.injEq] at h
      have h1 : 1 ≤ spn cN l := spn_pos rfl (by unfold cN; rw [hL]; rfl)
      have h2 := spn_le cN l
      omega
  · split at h
    · rename_i hD
      unfold tkNum at h
      split at h
      · cases h
      · split at h
        · cases h
        · simp only [Tk.ok.injEq] at h
          have h1 : 1 ≤ spn cD l := spn_pos rfl hD
          have h2 := spn_le cD l
          omega
    · split at h
      · rename_i hq
        obtain ⟨c, r, rfl⟩ := nxt_pos (l := l) (by omega)
        unfold tkText at h
        cases ht : txt (c :: r).tail with
        | none => rw [ht] at h; cases h
        | some x =>
          simp only [ht] at h
          split at h
          · cases h
          · simp only [Tk.ok.injEq] at h
            have := txt_len _ x.1 x.2 ht
            simp at this ⊢; omega
      · unfold tkMark at h
        split at h
        · simp only [Tk.ok.injEq] at h; omega
        · split at h
          · simp only [Tk.ok.injEq] at h; omega
          · cases h
theorem lx_fuel : ∀ (f g o : Nat) (l : List UInt8), l.length < f → l.length < g → lx f o l = lx g o l
  | 0, _, _, _, h, _ => by omega
  | _ + 1, 0, _, _, _, h => by omega
  | f + 1, g + 1, o, l, hf, hg => by
    rw [lx, lx]
    by_cases hs : sk false l = l.length
    · rw [if_pos hs, if_pos hs]
    · rw [if_neg hs, if_neg hs]
      cases h : tk (l.drop (sk false l)) with
      | err e => rfl
      | ok k t v m =>
        have := tk_len h
        simp only
        rw [lx_fuel f g]
        · simp at this ⊢; omega
        · simp at this ⊢; omega
theorem lxs_end {o : Nat} {l : List UInt8} (h : sk false l = l.length) : lxs o l = ([], 0, 0) := by rw [lxs, lx, if_pos h]
theorem lxs_err {o e : Nat} {l : List UInt8} (h : sk false l ≠ l.length) (ht : tk (l.drop (sk false l)) = .err e) : lxs o l = ([], o + sk false l, e) := by rw [lxs, lx, if_neg h, ht]
theorem lxs_ok {o k v m : Nat} {t l : List UInt8} (h : sk false l ≠ l.length) (ht : tk (l.drop (sk false l)) = .ok k t v m) :
    lxs o l = push ⟨k, t, v, o + sk false l⟩ (lxs (o + sk false l + m) ((l.drop (sk false l)).drop m)) := by
  have := tk_len ht
  rw [lxs, lx, if_neg h, ht]
  simp only
  rw [lxs, lx_fuel l.length]
  · simp at this ⊢; omega
  · simp
/-- Blanks ahead alter nothing. -/
theorem lxs_skip (o : Nat) (l : List UInt8) : lxs o l = lxs (o + sk false l) (l.drop (sk false l)) := by
  have hi := sk_idem false l
  have hle := sk_le false l
  by_cases h : sk false l = l.length
  · rw [lxs_end h, lxs_end]
    rw [hi]; simp; omega
  · have h2 : sk false (l.drop (sk false l)) ≠ (l.drop (sk false l)).length := by rw [hi]; simp; omega
    cases ht : tk (l.drop (sk false l)) with
    | err e =>
      rw [lxs_err h ht, lxs_err h2 (e := e) (by rw [hi, List.drop_zero]; exact ht), hi]; rfl
    | ok k t v m =>
      rw [lxs_ok h ht, lxs_ok h2 (k := k) (t := t) (v := v) (m := m) (by rw [hi, List.drop_zero]; exact ht), hi]
      rfl
/-- Tokens in front of what is still to be read. -/
def prep (acc : List Tok) (r : Res) : Res := if r.2.2 = 0 then (acc ++ r.1, r.2) else r
theorem prep_nil (r : Res) : prep [] r = r := by unfold prep; split <;> simp
theorem prep_push (acc : List Tok) (t : Tok) (r : Res) : prep acc (push t r) = prep (acc ++ [t]) r := by
  unfold prep push
  by_cases h : r.2.2 = 0
  · simp [h]
  · simp [h]
end Go.Proofs.YtekpefcggikcbaaGreatDoor
