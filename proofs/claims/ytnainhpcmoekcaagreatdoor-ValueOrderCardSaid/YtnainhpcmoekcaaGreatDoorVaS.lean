/- value: the comparison of strings, and that Compare's order is total (plain). -/
import Derived.Test.YtnainhpcmoekcaaGreatDoorVaM
namespace Go.Proofs.YtnainhpcmoekcaaGreatDoor
open Go.RowKit

def lexC : Bs → Bs → Int
  | [], [] => 0
  | [], _ :: _ => -1
  | _ :: _, [] => 1
  | a :: s, b :: t => if a.toNat < b.toNat then -1 else if b.toNat < a.toNat then 1 else lexC s t
theorem lexC_less : ∀ s t : Bs, lexC s t = if Op.bytesLess s t = true then -1 else if s = t then 0 else 1
  | [], [] => by simp [lexC, Op.bytesLess]
  | [], _ :: _ => by simp [lexC, Op.bytesLess]
  | _ :: _, [] => by simp [lexC, Op.bytesLess]
  | a :: s, b :: t => by
    rw [lexC, Op.bytesLess, lexC_less s t]
    by_cases h1 : a.toNat < b.toNat
    · rw [if_pos h1, if_pos (by have : a < b := h1; simp [this])]
    · rw [if_neg h1]
      have n1 : ¬ a < b := h1
      by_cases h2 : b.toNat < a.toNat
      · have n2 : ¬ a = b := fun h => by subst h; omega
        rw [if_pos h2, if_neg (by simp [n1, n2]), if_neg (by simp [n2])]
      · have e : a = b := UInt8.toNat_inj.1 (by omega)
        subst e
        rw [if_neg h2]
        simp
/-- A comparison: a total order up to what it calls equal. -/
structure Pre {α : Type} (f : α → α → Int) : Prop where
  r : ∀ a b, f a b = -1 ∨ f a b = 0 ∨ f a b = 1
  n : ∀ a b, f b a = - f a b
  t : ∀ a b c, f a b ≤ 0 → f b c ≤ 0 → f a c = min (f a b) (f b c)
def lx2 {α : Type} (f g : α → α → Int) (a b : α) : Int := if f a b = 0 then g a b else f a b
theorem Pre.lx {α : Type} {f g : α → α → Int} (hf : Pre f) (hg : Pre g) : Pre (lx2 f g) := by
  refine ⟨fun a b => ?_, fun a b => ?_, fun a b c h1 h2 => ?_⟩
  · unfold lx2
    split
    · exact hg.r a b
    · exact hf.r a b
  · unfold lx2
    rw [hf.n a b, hg.n a b]
    split <;> split <;> omega
  · have r1 := hf.r a b
    have r2 := hf.r b c
    have r3 := hg.r a b
    have r4 := hg.r b c
    unfold lx2 at h1 h2 ⊢
    by_cases e1 : f a b = 0
    · rw [if_pos e1] at h1 ⊢
      by_cases e2 : f b c = 0
      · rw [if_pos e2] at h2 ⊢
        have h3 := hf.t a b c (by omega) (by omega)
        rw [if_pos (by omega)]
        exact hg.t a b c h1 h2
      · rw [if_neg e2] at h2 ⊢
        have h3 := hf.t a b c (by omega) h2
        rw [if_neg (by omega)]
        omega
    · rw [if_neg e1] at h1 ⊢
      by_cases e2 : f b c = 0
      · rw [if_pos e2] at h2 ⊢
        have h3 := hf.t a b c h1 (by omega)
        rw [if_neg (by omega)]
        omega
      · rw [if_neg e2] at h2 ⊢
        have h3 := hf.t a b c h1 h2
        rw [if_neg (by omega)]
        omega
theorem Pre.of {α β : Type} {f : β → β → Int} (hf : Pre f) (g : α → β) : Pre (fun a b => f (g a) (g b)) := ⟨fun _ _ => hf.r _ _, fun _ _ => hf.n _ _, fun _ _ _ => hf.t _ _ _⟩
theorem cmpI_pre : Pre cmpI := by
  refine ⟨fun a b => ?_, fun a b => ?_, fun a b c h1 h2 => ?_⟩
  · unfold cmpI; split
    · exact .inl rfl
    · split
      · exact .inr (.inr rfl)
      · exact .inr (.inl rfl)
  · unfold cmpI; split <;> split <;> (try split) <;> omega
  · unfold cmpI at *
    split at h1 <;> split at h2 <;> (try split at h1) <;> (try split at h2) <;> (try omega) <;> split <;> (try split) <;> omega
theorem lexC_r : ∀ s t : Bs, lexC s t = -1 ∨ lexC s t = 0 ∨ lexC s t = 1 := fun s t => by
  rw [lexC_less]
  split
  · exact .inl rfl
  · split
    · exact .inr (.inl rfl)
    · exact .inr (.inr rfl)
theorem lexC_n : ∀ s t : Bs, lexC t s = - lexC s t
  | [], [] => rfl
  | [], _ :: _ => rfl
  | _ :: _, [] => rfl
  | a :: s, b :: t => by
    rw [lexC, lexC, lexC_n s t]
    split <;> split <;> (try split) <;> omega
theorem lexC_z : ∀ s t : Bs, lexC s t = 0 → s = t
  | [], [] => fun _ => rfl
  | [], _ :: _ => fun h => by simp [lexC] at h
  | _ :: _, [] => fun h => by simp [lexC] at h
  | a :: s, b :: t => fun h => by
    rw [lexC] at h
    split at h
    · omega
    · split at h
      · omega
      · rw [lexC_z s t h, UInt8.toNat_inj.1 (show a.toNat = b.toNat by omega)]
theorem lexC_t : ∀ s t u : Bs, lexC s t ≤ 0 → lexC t u ≤ 0 → lexC s u = min (lexC s t) (lexC t u)
  | [], [], [] => fun _ _ => rfl
  | [], [], _ :: _ => fun _ _ => rfl
  | [], _ :: _, [] => fun _ h => by simp [lexC] at h
  | _ :: _, [], _ => fun h _ => by simp [lexC] at h
  | _ :: _, _ :: _, [] => fun _ h => by simp [lexC] at h
  | [], b :: t, c :: u => fun _ h2 => by
    have r := lexC_r (b :: t) (c :: u)
    show (-1 : Int) = min (-1) _
    omega
  | a :: s, b :: t, c :: u => fun h1 h2 => by
    have ih := lexC_t s t u
    have r1 := lexC_r s t
    have r2 := lexC_r t u
    rw [lexC] at h1 h2 ⊢
    rw [lexC, lexC]
    by_cases x1 : a.toNat < b.toNat
    · rw [if_pos x1]
      by_cases x2 : b.toNat < c.toNat
      · rw [if_pos x2, if_pos (by omega)]; rfl
      · by_cases x3 : c.toNat < b.toNat
        · rw [if_neg x2, if_pos x3] at h2; omega
        · rw [if_neg x2, if_neg x3, if_pos (by omega)]
          omega
    · by_cases x4 : b.toNat < a.toNat
      · rw [if_neg x1, if_pos x4] at h1; omega
      · rw [if_neg x1, if_neg x4] at h1 ⊢
        by_cases x2 : b.toNat < c.toNat
        · rw [if_pos x2, if_pos (by omega)]; omega
        · by_cases x3 : c.toNat < b.toNat
          · rw [if_neg x2, if_pos x3] at h2; omega
          · rw [if_neg x2, if_neg x3] at h2 ⊢
            rw [if_neg (by omega), if_neg (by omega)]
            exact ih h1 h2
theorem lexC_pre : Pre lexC := ⟨lexC_r, fun s t => lexC_n s t, lexC_t⟩
/-- What Compare says. -/
def cmpV (k0 n0 : Int) (s : Bs) (k1 n1 : Int) (t : Bs) : Int := orI [cmpI k0 k1, cmpI n0 n1, cmpI (s.length : Int) (t.length : Int), lexC s t]
theorem cmpV_eq (k0 n0 : Int) (s : Bs) (k1 n1 : Int) (t : Bs) : cmpV k0 n0 s k1 n1 t =
    lx2 (fun a b : Int × Int × Bs => cmpI a.1 b.1) (lx2 (fun a b => cmpI a.2.1 b.2.1) (lx2 (fun a b => cmpI (a.2.2.length : Int) (b.2.2.length : Int)) (fun a b => lexC a.2.2 b.2.2))) (k0, n0, s) (k1, n1, t) := by
  unfold cmpV lx2
  simp only [orI]
  split
  · split
    · split
      · split
        · omega
        · rfl
      · rfl
    · rfl
  · rfl
theorem cmpV_pre : Pre (lx2 (fun a b : Int × Int × Bs => cmpI a.1 b.1) (lx2 (fun a b => cmpI a.2.1 b.2.1) (lx2 (fun a b => cmpI (a.2.2.length : Int) (b.2.2.length : Int)) (fun a b => lexC a.2.2 b.2.2)))) :=
  (cmpI_pre.of fun a : Int × Int × Bs => a.1).lx ((cmpI_pre.of fun a : Int × Int × Bs => a.2.1).lx ((cmpI_pre.of fun a : Int × Int × Bs => (a.2.2.length : Int)).lx (lexC_pre.of fun a : Int × Int × Bs => a.2.2)))
theorem cmpI_z {x y : Int} (h : cmpI x y = 0) : x = y := by
  unfold cmpI at h
  split at h
  · omega
  · split at h <;> omega
theorem cmpV_z (k0 n0 : Int) (s : Bs) (k1 n1 : Int) (t : Bs) : cmpV k0 n0 s k1 n1 t = 0 ↔ k0 = k1 ∧ n0 = n1 ∧ s = t := by
  constructor
  · intro h
    unfold cmpV at h
    simp only [orI] at h
    split at h
    · rename_i e1
      split at h
      · rename_i e2
        split at h
        · rename_i e3
          split at h
          · rename_i e4
            exact ⟨cmpI_z e1, cmpI_z e2, lexC_z _ _ e4⟩
          · rename_i e4; exact absurd h e4
        · rename_i e3; exact absurd h e3
      · rename_i e2; exact absurd h e2
    · rename_i e1; exact absurd h e1
  · rintro ⟨rfl, rfl, rfl⟩
    have c : ∀ x : Int, cmpI x x = 0 := fun x => by unfold cmpI; rw [if_neg (by omega), if_neg (by omega)]
    have l : lexC s s = 0 := by have := lexC_n s s; omega
    unfold cmpV
    simp [orI, c, l]
theorem cmpV_n (k0 n0 : Int) (s : Bs) (k1 n1 : Int) (t : Bs) : cmpV k1 n1 t k0 n0 s = - cmpV k0 n0 s k1 n1 t := by rw [cmpV_eq, cmpV_eq]; exact cmpV_pre.n _ _
theorem cmpV_r (k0 n0 : Int) (s : Bs) (k1 n1 : Int) (t : Bs) : cmpV k0 n0 s k1 n1 t = -1 ∨ cmpV k0 n0 s k1 n1 t = 0 ∨ cmpV k0 n0 s k1 n1 t = 1 := by rw [cmpV_eq]; exact cmpV_pre.r _ _
theorem cmpV_t (k0 n0 : Int) (s : Bs) (k1 n1 : Int) (t : Bs) (k2 n2 : Int) (u : Bs) (h1 : cmpV k0 n0 s k1 n1 t ≤ 0) (h2 : cmpV k1 n1 t k2 n2 u ≤ 0) :
    cmpV k0 n0 s k2 n2 u = min (cmpV k0 n0 s k1 n1 t) (cmpV k1 n1 t k2 n2 u) := by
  rw [cmpV_eq] at h1 h2
  rw [cmpV_eq, cmpV_eq, cmpV_eq]
  exact cmpV_pre.t _ _ _ h1 h2
theorem cmps_any (s t : Bs) (w : World) : Calls Tryz.prog 49 #[.string (ofL s), .string (ofL t)] w fun e w' => e = .returned (.int .i64 (lexC s t)) ∧ w = w' := by
  have HR := Lib.hid (lexC_less s t)
  cases h0 : Op.bytesLess s t with
  | true =>
    have hl : Op.bytesLess (ofL s).toList (ofL t).toList = true := by rw [ofL_toList, ofL_toList]; exact h0
    rw [h0, if_pos rfl] at HR
    go_enter Tryz.func49, Tryz.ntmps49
    go_wp2_with fail
    refine (isnans_any _ _).mono ?_
    rintro e w5 ⟨rfl, rfl⟩
    go_wp2_with fail
    refine (isnans_any _ _).mono ?_
    rintro e w5 ⟨rfl, rfl⟩
    go_wp2
    go_ret
    exact ⟨by rw [HR.out]; rfl, rfl⟩
  | false =>
    have hl : Op.bytesLess (ofL s).toList (ofL t).toList = false := by rw [ofL_toList, ofL_toList]; exact h0
    rw [h0, if_neg (by simp)] at HR
    by_cases h1 : s = t
    · subst h1
      rw [if_pos rfl] at HR
      rw [HR.out]
      exact cmps_same _ _
    · rw [if_neg h1] at HR
      have hn : ¬ (ofL s).toList = (ofL t).toList := by rw [ofL_toList, ofL_toList]; exact h1
      have hq : ((ofL s).toList == (ofL t).toList) = false := by rw [beq_eq_false_iff_ne]; exact hn
      go_enter Tryz.func49, Tryz.ntmps49
      go_wp2_with fail
      refine (isnans_any _ _).mono ?_
      rintro e w5 ⟨rfl, rfl⟩
      go_wp2_with fail
      refine (isnans_any _ _).mono ?_
      rintro e w5 ⟨rfl, rfl⟩
      go_wp2
      go_ret
      exact ⟨by rw [HR.out]; rfl, rfl⟩
theorem compare_any (k0 n0 : Int) (s : Bs) (k1 n1 : Int) (t : Bs) (w : World) : Calls Tryz.prog 21 #[vl k0 n0 s, vl k1 n1 t] w (Tells w (.int .i64 (cmpV k0 n0 s k1 n1 t))) :=
  compare_gen k0 n0 s k1 n1 t (lexC s t) w fun W => cmps_any s t W
end Go.Proofs.YtnainhpcmoekcaaGreatDoor
