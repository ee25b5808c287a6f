/- Layer 10: two runs of the parser over tokens that agree: what both answer is the same, as long as the first one is not lost. -/
import Derived.Test.YtekpefcggikcbaaGreatDoorMSynPr
import Derived.Test.YtekpefcggikcbaaGreatDoorSynM
import Derived.Lib.ItoaNum
namespace Go.Proofs.YtekpefcggikcbaaGreatDoor
/- Layer 10: two runs of the parser over tokens that agree: what both answer is the same, as long as the first one is not lost. -/
/-- The states of two runs agree (Sm); the first run is of no interest any more (Lo). -/
structure Rl (E1 E2 : Nat) (Sm : St → St → Prop) (Lo : St → Prop) : Prop where
  nx : ∀ {s1 s2}, Sm s1 s2 → (nextT E1 s1).k = (nextT E2 s2).k ∧ (nextT E1 s1).t = (nextT E2 s2).t ∧ (nextT E1 s1).v = (nextT E2 s2).v
  nil : ∀ {s1 s2}, Sm s1 s2 → (s1.r = [] ↔ s2.r = [])
  er1 : ∀ {s1 s2}, Sm s1 s2 → s1.e ≠ 0 → s1.r = []
  er2 : ∀ {s1 s2}, Sm s1 s2 → s2.e ≠ 0 → s2.r = []
  z : ∀ {s1 s2}, Sm s1 s2 → (s1.e = 0 ↔ s2.e = 0)
  tl : ∀ {s1 s2}, Sm s1 s2 → Lo ⟨s1.r.tail, s1.a, s1.e⟩ ∨ Sm ⟨s1.r.tail, s1.a, s1.e⟩ ⟨s2.r.tail, s2.a, s2.e⟩
  fl : ∀ {s1 s2} (x : Nat), x ≠ 0 → Sm s1 s2 → Lo (failS E1 x s1) ∨ Sm (failS E1 x s1) (failS E2 x s2)
  lt : ∀ {s}, Lo s → Lo ⟨s.r.tail, s.a, s.e⟩
  lf : ∀ {s} (x : Nat), x ≠ 0 → Lo s → Lo (failS E1 x s)
/-- What is left to read: nothing behind an error. -/
def ms (s : St) : Nat := if s.e = 0 then s.r.length + 1 else 0
theorem ms_ok {s : St} (h : s.e = 0) : ms s = s.r.length + 1 := if_pos h
theorem ms_err {s : St} (h : s.e ≠ 0) : ms s = 0 := if_neg h
theorem ms_fail (E x : Nat) (hx : x ≠ 0) (s : St) : ms (failS E x s) = 0 := by
  unfold failS
  split
  · exact ms_err hx
  · rename_i h; exact ms_err h
theorem ms_tail (s : St) : ms ⟨s.r.tail, s.a, s.e⟩ ≤ ms s := by
  unfold ms
  show (if s.e = 0 then s.r.tail.length + 1 else 0) ≤ _
  split
  · simp
  · omega
structure Good (Sm : St → St → Prop) (Lo : St → Prop) (N1 N2 : Nat) {α : Type} (f g : P α) : Prop where
  keep : ∀ s, Lo s → Lo (f s).2
  d1 : ∀ s, ms (f s).2 ≤ ms s
  d2 : ∀ s, ms (g s).2 ≤ ms s
  sim : ∀ s1 s2, Sm s1 s2 → ms s1 ≤ N1 → ms s2 ≤ N2 → Lo (f s1).2 ∨ (Sm (f s1).2 (g s2).2 ∧ (f s1).1 = (g s2).1)
section
variable {E1 E2 : Nat} {Sm : St → St → Prop} {Lo : St → Prop} {N1 N2 : Nat} {α β : Type}
theorem Good.bind {f g : P α} {k k' : α → P β} (hf : Good Sm Lo N1 N2 f g) (hk : ∀ a, Good Sm Lo N1 N2 (k a) (k' a)) : Good Sm Lo N1 N2 (f >>= k) (g >>= k') where
  keep s h := (hk _).keep _ (hf.keep s h)
  d1 s := Nat.le_trans ((hk _).d1 _) (hf.d1 s)
  d2 s := Nat.le_trans ((hk _).d2 _) (hf.d2 s)
  sim s1 s2 h h1 h2 := by
    rcases hf.sim s1 s2 h h1 h2 with hl | ⟨hs, he⟩
    · exact .inl ((hk _).keep _ hl)
    · have := (hk (f s1).1).sim _ _ hs (Nat.le_trans (hf.d1 s1) h1) (Nat.le_trans (hf.d2 s2) h2)
      show Lo (k (f s1).1 (f s1).2).2 ∨ (Sm (k (f s1).1 (f s1).2).2 (k' (g s2).1 (g s2).2).2 ∧ (k (f s1).1 (f s1).2).1 = (k' (g s2).1 (g s2).2).1)
      rw [← he]
      exact this
theorem Good.pure (a : α) : Good Sm Lo N1 N2 (Pure.pure a : P α) (Pure.pure a : P α) where
  keep _ h := h
  d1 _ := Nat.le_refl _
  d2 _ := Nat.le_refl _
  sim _ _ h _ _ := .inr ⟨h, rfl⟩
theorem Good.ite {c : Prop} [Decidable c] {f g f' g' : P α} (h : Good Sm Lo N1 N2 f g) (h' : Good Sm Lo N1 N2 f' g') : Good Sm Lo N1 N2 (if c then f else f') (if c then g else g') := by
  split
  · exact h
  · exact h'
theorem Good.fork {c1 c2 : St → Prop} [∀ s, Decidable (c1 s)] [∀ s, Decidable (c2 s)] (hc : ∀ s1 s2, Sm s1 s2 → (c1 s1 ↔ c2 s2)) {f g f' g' : P α} (h : Good Sm Lo N1 N2 f g) (h' : Good Sm Lo N1 N2 f' g') :
    Good Sm Lo N1 N2 (fun s => if c1 s then f s else f' s) (fun s => if c2 s then g s else g' s) where
  keep s hl := by
    show Lo (if c1 s then f s else f' s).2
    split
    · exact h.keep s hl
    · exact h'.keep s hl
  d1 s := by
    show ms (if c1 s then f s else f' s).2 ≤ _
    split
    · exact h.d1 s
    · exact h'.d1 s
  d2 s := by
    show ms (if c2 s then g s else g' s).2 ≤ _
    split
    · exact h.d2 s
    · exact h'.d2 s
  sim s1 s2 hs h1 h2 := by
    show Lo (if c1 s1 then f s1 else f' s1).2 ∨ (Sm (if c1 s1 then f s1 else f' s1).2 (if c2 s2 then g s2 else g' s2).2 ∧ (if c1 s1 then f s1 else f' s1).1 = (if c2 s2 then g s2 else g' s2).1)
    by_cases hc1 : c1 s1
    · rw [if_pos hc1, if_pos ((hc _ _ hs).1 hc1)]; exact h.sim s1 s2 hs h1 h2
    · rw [if_neg hc1, if_neg (fun h => hc1 ((hc _ _ hs).2 h))]; exact h'.sim s1 s2 hs h1 h2
theorem Good.of {f g : P α} (h : ∀ N1 N2, Good Sm Lo N1 N2 f g) : Good Sm Lo N1 N2 f g := h N1 N2
variable (H : Rl E1 E2 Sm Lo)
include H
theorem sees_same {s1 s2 : St} (h : Sm s1 s2) (x : Bs) : seesB E1 x s1 = seesB E2 x s2 := by
  obtain ⟨h1, h2, -⟩ := H.nx h
  unfold seesB
  rw [h1, h2]
theorem Good.readF {b1 b2 : St → Bool} (hb : ∀ s1 s2, Sm s1 s2 → b1 s1 = b2 s2) (F : Tok → α) (hF : ∀ t u : Tok, t.k = u.k → t.t = u.t → t.v = u.v → F t = F u) :
    Good Sm Lo N1 N2 (fun s => (F (readS E1 (b1 s) s).1, (readS E1 (b1 s) s).2)) (fun s => (F (readS E2 (b2 s) s).1, (readS E2 (b2 s) s).2)) where
  keep s h := by
    show Lo (readS E1 (b1 s) s).2
    cases b1 s
    · exact H.lf 3 (by decide) h
    · exact H.lt h
  d1 s := by
    show ms (readS E1 (b1 s) s).2 ≤ _
    cases b1 s
    · exact Nat.le_trans (Nat.le_of_eq (ms_fail _ 3 (by decide) _)) (Nat.zero_le _)
    · exact ms_tail s
  d2 s := by
    show ms (readS E2 (b2 s) s).2 ≤ _
    cases b2 s
    · exact Nat.le_trans (Nat.le_of_eq (ms_fail _ 3 (by decide) _)) (Nat.zero_le _)
    · exact ms_tail s
  sim s1 s2 h _ _ := by
    show Lo (readS E1 (b1 s1) s1).2 ∨ (Sm (readS E1 (b1 s1) s1).2 (readS E2 (b2 s2) s2).2 ∧ F (readS E1 (b1 s1) s1).1 = F (readS E2 (b2 s2) s2).1)
    rw [← hb s1 s2 h]
    cases b1 s1
    · rcases H.fl 3 (by decide) h with hl | hs
      · exact .inl hl
      · exact .inr ⟨hs, rfl⟩
    · rcases H.tl h with hl | hs
      · exact .inl hl
      · obtain ⟨n1, n2, n3⟩ := H.nx h
        exact .inr ⟨hs, hF _ _ n1 n2 n3⟩
theorem Good.expect (x : Bs) : Good Sm Lo N1 N2 (expectP E1 x) (expectP E2 x) := Good.readF H (fun _ _ h => sees_same H h x) (fun _ => ()) fun _ _ _ _ _ => rfl
theorem Good.take (x : Bs) : Good Sm Lo N1 N2 (takeP E1 x) (takeP E2 x) :=
  Good.fork (fun s1 s2 h => by rw [sees_same H h x]) ((Good.expect H x).bind fun _ => Good.pure true) (Good.pure false)
theorem Good.word : Good Sm Lo N1 N2 (wordP E1) (wordP E2) := Good.readF H (fun s1 s2 h => by obtain ⟨h1, h2, -⟩ := H.nx h; rw [h1, h2]) (fun t => t.t) fun _ _ _ h _ => h
theorem Good.num : Good Sm Lo N1 N2 (numP E1) (numP E2) := Good.readF H (fun s1 s2 h => by obtain ⟨h1, -, -⟩ := H.nx h; rw [h1]) (fun t => (t.v : Int)) fun _ _ _ _ h => by rw [h]
theorem Good.op : Good Sm Lo N1 N2 (opP E1) (opP E2) := Good.readF H (fun s1 s2 h => by obtain ⟨h1, h2, -⟩ := H.nx h; rw [h1, h2]) (fun t => t.t) fun _ _ _ h _ => h
theorem Good.sepL {f g : P α} (hf : Good Sm Lo N1 N2 f g) (mark : Bs) (hd1 : Dec f) (hd2 : Dec g) : ∀ (n1 n2 : Nat),
    (∀ s, Lo s → Lo (sepL E1 mark f n1 s).2) ∧ (∀ s, ms (sepL E1 mark f n1 s).2 ≤ ms s) ∧ (∀ s, ms (sepL E2 mark g n2 s).2 ≤ ms s) ∧
    ∀ s1 s2, Sm s1 s2 → ms s1 ≤ N1 → ms s2 ≤ N2 → s1.r.length ≤ n1 → s2.r.length ≤ n2 → Lo (sepL E1 mark f n1 s1).2 ∨ (Sm (sepL E1 mark f n1 s1).2 (sepL E2 mark g n2 s2).2 ∧ (sepL E1 mark f n1 s1).1 = (sepL E2 mark g n2 s2).1) := by
  have ht := Good.take (N1 := N1) (N2 := N2) H mark
  have k1 : ∀ n s, Lo s → Lo (Go.Proofs.YtekpefcggikcbaaGreatDoor.sepL E1 mark f n s).2 := by
    intro n
    induction n with
    | zero => intro s h; exact h
    | succ n ih =>
      intro s h
      cases hb : (takeP E1 mark s).1 with
      | false => rw [sepL_no _ hb]; exact h
      | true => rw [sepL_yes _ hb]; exact ih _ (hf.keep _ (ht.keep _ h))
  have k2 : ∀ n s, ms (Go.Proofs.YtekpefcggikcbaaGreatDoor.sepL E1 mark f n s).2 ≤ ms s := by
    intro n
    induction n with
    | zero => intro s; exact Nat.le_refl _
    | succ n ih =>
      intro s
      cases hb : (takeP E1 mark s).1 with
      | false => rw [sepL_no _ hb]; exact Nat.le_refl _
      | true => rw [sepL_yes _ hb]; exact Nat.le_trans (ih _) (Nat.le_trans (hf.d1 _) (ht.d1 _))
  have k3 : ∀ n s, ms (Go.Proofs.YtekpefcggikcbaaGreatDoor.sepL E2 mark g n s).2 ≤ ms s := by
    intro n
    induction n with
    | zero => intro s; exact Nat.le_refl _
    | succ n ih =>
      intro s
      cases hb : (takeP E2 mark s).1 with
      | false => rw [sepL_no _ hb]; exact Nat.le_refl _
      | true => rw [sepL_yes _ hb]; exact Nat.le_trans (ih _) (Nat.le_trans (hf.d2 _) (ht.d2 _))
  intro n1
  induction n1 with
  | zero =>
    intro n2
    refine ⟨k1 0, k2 0, k3 n2, fun s1 s2 h _ _ l1 _ => .inr ?_⟩
    have hr : s1.r = [] := List.eq_nil_of_length_eq_zero (by omega)
    have hr2 := (H.nil h).1 hr
    have hb : (takeP E2 mark s2).1 = false := by
      cases hb : (takeP E2 mark s2).1 with
      | false => rfl
      | true => have := takeP_yes hb; rw [hr2] at this; simp at this
    rw [sepL_no _ hb]
    exact ⟨h, rfl⟩
  | succ n1 ih =>
    intro n2
    refine ⟨k1 _, k2 _, k3 n2, fun s1 s2 h m1 m2 l1 l2 => ?_⟩
    rcases ht.sim s1 s2 h m1 m2 with hl | ⟨hs, he⟩
    · cases hb : (takeP E1 mark s1).1 with
      | false => rw [takeP_no hb] at hl; exact .inl (k1 _ _ hl)
      | true => rw [sepL_yes _ hb]; exact .inl (k1 _ _ (hf.keep _ hl))
    · cases hb : (takeP E1 mark s1).1 with
      | false => rw [sepL_no _ hb, sepL_no _ (he ▸ hb)]; exact .inr ⟨h, rfl⟩
      | true =>
        have hb2 : (takeP E2 mark s2).1 = true := he ▸ hb
        have c1 := takeP_yes hb
        have c2 := takeP_yes hb2
        obtain ⟨n2, rfl⟩ : ∃ m, n2 = m + 1 := ⟨n2 - 1, by omega⟩
        rw [sepL_yes _ hb, sepL_yes _ hb2]
        have q1 := Nat.le_trans (ht.d1 s1) m1
        have q2 := Nat.le_trans (ht.d2 s2) m2
        rcases hf.sim _ _ hs q1 q2 with hl | ⟨hs3, he3⟩
        · exact .inl (k1 _ _ hl)
        · have d1 := hd1 (takeP E1 mark s1).2
          have d2 := hd2 (takeP E2 mark s2).2
          rcases (ih n2).2.2.2 _ _ hs3 (Nat.le_trans (hf.d1 _) q1) (Nat.le_trans (hf.d2 _) q2) (by omega) (by omega) with hl | ⟨hs4, he4⟩
          · exact .inl hl
          · exact .inr ⟨hs4, by rw [he3, he4]⟩
theorem Good.sep {f g : P α} (hf : Good Sm Lo N1 N2 f g) (mark : Bs) (hd1 : Dec f) (hd2 : Dec g) : Good Sm Lo N1 N2 (sepP E1 mark f) (sepP E2 mark g) where
  keep s h := (Good.sepL H hf mark hd1 hd2 _ 0).1 _ (hf.keep s h)
  d1 s := Nat.le_trans ((Good.sepL H hf mark hd1 hd2 _ 0).2.1 _) (hf.d1 s)
  d2 s := Nat.le_trans ((Good.sepL H hf mark hd1 hd2 0 _).2.2.1 _) (hf.d2 s)
  sim s1 s2 h m1 m2 := by
    rcases hf.sim s1 s2 h m1 m2 with hl | ⟨hs, he⟩
    · exact .inl ((Good.sepL H hf mark hd1 hd2 _ 0).1 _ hl)
    · rcases (Good.sepL H hf mark hd1 hd2 (f s1).2.r.length (g s2).2.r.length).2.2.2 _ _ hs (Nat.le_trans (hf.d1 _) m1) (Nat.le_trans (hf.d2 _) m2) (Nat.le_refl _) (Nat.le_refl _) with hl | ⟨hs2, he2⟩
      · exact .inl hl
      · refine .inr ⟨hs2, ?_⟩
        show (f s1).1 :: _ = (g s2).1 :: _
        rw [he, he2]
theorem Good.words : Good Sm Lo N1 N2 (wordsP E1) (wordsP E2) := Good.sep H (Good.word H) _ wordP_dec wordP_dec
theorem Good.path : Good Sm Lo N1 N2 (pathP E1) (pathP E2) := (Good.sep H (Good.word H) _ wordP_dec wordP_dec).bind fun _ => Good.pure _
theorem Good.var : Good Sm Lo N1 N2 (varP E1) (varP E2) := (Good.sep H (Good.word H) _ wordP_dec wordP_dec).bind fun _ => Good.pure _
theorem Good.signed : Good Sm Lo N1 N2 (signedP E1) (signedP E2) := (Good.take H _).bind fun _ => Good.ite ((Good.num H).bind fun _ => Good.pure _) (Good.num H)
theorem Good.added : Good Sm Lo N1 N2 (addedP E1) (addedP E2) := (Good.take H _).bind fun _ => Good.ite (Good.num H) ((Good.take H _).bind fun _ => Good.ite ((Good.num H).bind fun _ => Good.pure _) (Good.pure _))
theorem Good.sort {f g : P Int} (h : Good Sm Lo N1 N2 f g) : Good Sm Lo N1 N2 (sortP E1 f) (sortP E2 g) := h.bind fun _ => (Good.expect H _).bind fun _ => h.bind fun _ => Good.pure _
theorem Good.field : Good Sm Lo N1 N2 (fieldP E1) (fieldP E2) := (Good.word H).bind fun _ => (Good.expect H _).bind fun _ => (Good.take H _).bind fun _ => Good.ite ((Good.sort H (Good.num H)).bind fun _ => Good.pure _) ((Good.expect H _).bind fun _ => (Good.sort H (Good.signed H)).bind fun _ => Good.pure _)
theorem Good.term : Good Sm Lo N1 N2 (termP E1) (termP E2) := (Good.take H _).bind fun _ => Good.ite ((Good.expect H _).bind fun _ => (Good.var H).bind fun _ => (Good.expect H _).bind fun _ => (Good.added H).bind fun _ => Good.pure _)
  (Good.fork (fun s1 s2 h => by rw [(H.nx h).1]) ((Good.var H).bind fun _ => (Good.added H).bind fun _ => Good.pure _) ((Good.signed H).bind fun _ => Good.pure _))
theorem Good.atom : Good Sm Lo N1 N2 (atomP E1) (atomP E2) := (Good.term H).bind fun _ => (Good.op H).bind fun _ => (Good.term H).bind fun _ => Good.pure _
theorem Good.fields : Good Sm Lo N1 N2 (fieldsP E1) (fieldsP E2) := Good.fork (fun s1 s2 h => by rw [sees_same H h _]) (Good.pure _) (Good.sep H (Good.field H) _ fieldP_dec fieldP_dec)
theorem Good.wher : Good Sm Lo N1 N2 (whereP E1) (whereP E2) := (Good.take H _).bind fun _ => Good.ite (Good.sep H (Good.atom H) _ atomP_dec atomP_dec) (Good.pure _)
theorem Good.message : Good Sm Lo N1 N2 (messageP E1) (messageP E2) := (Good.expect H _).bind fun _ => (Good.path H).bind fun _ => (Good.expect H _).bind fun _ => (Good.fields H).bind fun _ => (Good.expect H _).bind fun _ => (Good.wher H).bind fun _ => (Good.expect H _).bind fun _ => Good.pure _
theorem Good.ticksS : Good Sm Lo N1 N2 (fun s => ((), ticksS E1 s) : P Unit) (fun s => ((), Go.Proofs.YtekpefcggikcbaaGreatDoor.ticksS E2 s) : P Unit) where
  keep s h := by
    show Lo (Go.Proofs.YtekpefcggikcbaaGreatDoor.ticksS E1 s)
    unfold Go.Proofs.YtekpefcggikcbaaGreatDoor.ticksS
    split
    · exact H.lf 2 (by decide) h
    · exact h
  d1 s := by
    show ms (Go.Proofs.YtekpefcggikcbaaGreatDoor.ticksS E1 s) ≤ _
    unfold Go.Proofs.YtekpefcggikcbaaGreatDoor.ticksS
    split
    · exact Nat.le_trans (Nat.le_of_eq (ms_fail _ 2 (by decide) _)) (Nat.zero_le _)
    · exact Nat.le_refl _
  d2 s := by
    show ms (Go.Proofs.YtekpefcggikcbaaGreatDoor.ticksS E2 s) ≤ _
    unfold Go.Proofs.YtekpefcggikcbaaGreatDoor.ticksS
    split
    · exact Nat.le_trans (Nat.le_of_eq (ms_fail _ 2 (by decide) _)) (Nat.zero_le _)
    · exact Nat.le_refl _
  sim s1 s2 h _ _ := by
    obtain ⟨n1, n2, n3⟩ := H.nx h
    show Lo (Go.Proofs.YtekpefcggikcbaaGreatDoor.ticksS E1 s1) ∨ (Sm (Go.Proofs.YtekpefcggikcbaaGreatDoor.ticksS E1 s1) (Go.Proofs.YtekpefcggikcbaaGreatDoor.ticksS E2 s2) ∧ () = ())
    unfold Go.Proofs.YtekpefcggikcbaaGreatDoor.ticksS
    rw [n1, n3]
    split
    · rcases H.fl 2 (by decide) h with hl | hs
      · exact .inl hl
      · exact .inr ⟨hs, rfl⟩
    · exact .inr ⟨h, rfl⟩
theorem Good.ticks : Good Sm Lo N1 N2 (ticksP E1) (ticksP E2) := (Good.ticksS H).bind fun _ => Good.num H
theorem Good.within : Good Sm Lo N1 N2 (withinP E1) (withinP E2) := (Good.take H _).bind fun _ => Good.ite (Good.ticks H) (Good.pure _)
theorem Good.send : Good Sm Lo N1 N2 (sendP E1) (sendP E2) := (Good.word H).bind fun _ => (Good.expect H _).bind fun _ => (Good.words H).bind fun _ => (Good.expect H _).bind fun _ => (Good.path H).bind fun _ => (Good.expect H _).bind fun _ => Good.pure _
theorem Good.again : Good Sm Lo N1 N2 (againP E1) (againP E2) := (Good.path H).bind fun _ => (Good.expect H _).bind fun _ => Good.pure _
theorem Good.call : Good Sm Lo N1 N2 (callP E1) (callP E2) := (Good.word H).bind fun _ => (Good.expect H _).bind fun _ => (Good.words H).bind fun _ => (Good.expect H _).bind fun _ => (Good.expect H _).bind fun _ => (Good.word H).bind fun _ => (Good.expect H _).bind fun _ => Good.pure _
end
/- Layer 10: two runs of the parser over tokens that agree: items, protocols, sources. -/
section
variable {E1 E2 : Nat} {Sm : St → St → Prop} {Lo : St → Prop} {N1 N2 : Nat} {α β : Type}
variable (H : Rl E1 E2 Sm Lo)
include H
theorem Good.block {i j : P (List It)} (h : Good Sm Lo (N1 - 1) (N2 - 1) i j) : Good Sm Lo N1 N2 (blockP E1 i) (blockP E2 j) where
  keep s hl := h.keep _ ((Good.expect (N1 := 0) (N2 := 0) H [123]).keep s hl)
  d1 s := Nat.le_trans (h.d1 _) ((Good.expect (N1 := 0) (N2 := 0) H [123]).d1 s)
  d2 s := Nat.le_trans (h.d2 _) ((Good.expect (N1 := 0) (N2 := 0) H [123]).d2 s)
  sim s1 s2 hs m1 m2 := by
    have hx := Good.expect (N1 := N1) (N2 := N2) H [123]
    have step : ∀ (E : Nat) (s : St), ms (expectP E [123] s).2 ≤ ms s - 1 := by
      intro E s
      show ms (readS E (seesB E [123] s) s).2 ≤ _
      cases hb : seesB E [123] s with
      | false => exact Nat.le_trans (Nat.le_of_eq (ms_fail _ 3 (by decide) _)) (Nat.zero_le _)
      | true =>
        have hne := sees_ne hb
        have := List.length_pos_iff.2 hne
        show ms ⟨s.r.tail, s.a, s.e⟩ ≤ _
        unfold ms
        show (if s.e = 0 then s.r.tail.length + 1 else 0) ≤ _
        split
        · simp; omega
        · omega
    rcases hx.sim s1 s2 hs m1 m2 with hl | ⟨hs2, _⟩
    · exact .inl (h.keep _ hl)
    · exact h.sim _ _ hs2 (Nat.le_trans (step E1 s1) (by omega)) (Nat.le_trans (step E2 s2) (by omega))
theorem Good.els {i j : P (List It)} (h : Good Sm Lo N1 N2 (blockP E1 i) (blockP E2 j)) (t : Int) (bs : List (List It)) : Good Sm Lo N1 N2 (elseP E1 i t bs) (elseP E2 j t bs) := by
  unfold elseP
  exact Good.ite ((Good.expect H _).bind fun _ => h.bind fun _ => Good.pure _) (Good.pure _)
theorem Good.item {i j : P (List It)} (h : Good Sm Lo N1 N2 (blockP E1 i) (blockP E2 j)) (d1 : Dec i) (d2 : Dec j) : Good Sm Lo N1 N2 (itemP E1 i) (itemP E2 j) :=
  (Good.take H _).bind fun _ => Good.ite ((Good.expect H _).bind fun _ => (Good.word H).bind fun _ => (Good.within H).bind fun _ => (Good.sep H h _ (blockP_dec d1) (blockP_dec d2)).bind fun _ => (Good.els H h _ _).bind fun _ => Good.pure _)
    ((Good.take H _).bind fun _ => Good.ite ((Good.path H).bind fun _ => h.bind fun _ => Good.pure _)
      ((Good.take H _).bind fun _ => Good.ite (Good.again H)
        ((Good.take H _).bind fun _ => Good.ite (h.bind fun _ => (Good.expect H _).bind fun _ => (Good.sep H h _ (blockP_dec d1) (blockP_dec d2)).bind fun _ => Good.pure _)
          ((Good.take H _).bind fun _ => Good.ite (Good.call H) (Good.send H)))))
/-- A loop that reads as long as something holds, with fuel. -/
theorem Good.loop {f g : P α} (L1 L2 : Nat → P (List α)) (c1 c2 : St → Prop) [∀ s, Decidable (c1 s)] [∀ s, Decidable (c2 s)] (hf : Good Sm Lo N1 N2 f g)
    (z1 : ∀ s, L1 0 s = ([], s)) (no1 : ∀ n s, ¬ c1 s → L1 n s = ([], s)) (no2 : ∀ n s, ¬ c2 s → L2 n s = ([], s))
    (ye1 : ∀ n s, c1 s → L1 (n + 1) s = ((f s).1 :: (L1 n (f s).2).1, (L1 n (f s).2).2)) (ye2 : ∀ n s, c2 s → L2 (n + 1) s = ((g s).1 :: (L2 n (g s).2).1, (L2 n (g s).2).2))
    (ne2 : ∀ s, c2 s → s.r ≠ []) (hc : ∀ s1 s2, Sm s1 s2 → (c1 s1 ↔ c2 s2))
    (eat1 : ∀ s, c1 s → (s.e ≠ 0 → s.r = []) → (f s).2.r.length < s.r.length) (eat2 : ∀ s, c2 s → (s.e ≠ 0 → s.r = []) → (g s).2.r.length < s.r.length) (z2 : ∀ s, L2 0 s = ([], s)) : ∀ (n1 n2 : Nat),
    (∀ s, Lo s → Lo (L1 n1 s).2) ∧ (∀ s, ms (L1 n1 s).2 ≤ ms s) ∧ (∀ s, ms (L2 n2 s).2 ≤ ms s) ∧
    ∀ s1 s2, Sm s1 s2 → ms s1 ≤ N1 → ms s2 ≤ N2 → s1.r.length ≤ n1 → s2.r.length ≤ n2 → Lo (L1 n1 s1).2 ∨ (Sm (L1 n1 s1).2 (L2 n2 s2).2 ∧ (L1 n1 s1).1 = (L2 n2 s2).1) := by
  have k1 : ∀ n s, Lo s → Lo (L1 n s).2 := by
    intro n
    induction n with
    | zero => intro s h; rw [z1]; exact h
    | succ n ih =>
      intro s h
      by_cases hb : c1 s
      · rw [ye1 _ _ hb]; exact ih _ (hf.keep _ h)
      · rw [no1 _ _ hb]; exact h
  have k2 : ∀ n s, ms (L1 n s).2 ≤ ms s := by
    intro n
    induction n with
    | zero => intro s; rw [z1]; exact Nat.le_refl _
    | succ n ih =>
      intro s
      by_cases hb : c1 s
      · rw [ye1 _ _ hb]; exact Nat.le_trans (ih _) (hf.d1 _)
      · rw [no1 _ _ hb]; exact Nat.le_refl _
  have k3 : ∀ n s, ms (L2 n s).2 ≤ ms s := by
    intro n
    induction n with
    | zero => intro s; rw [z2]; exact Nat.le_refl _
    | succ n ih =>
      intro s
      by_cases hb : c2 s
      · rw [ye2 _ _ hb]; exact Nat.le_trans (ih _) (hf.d2 _)
      · rw [no2 _ _ hb]; exact Nat.le_refl _
  intro n1
  induction n1 with
  | zero =>
    intro n2
    refine ⟨k1 0, k2 0, k3 n2, fun s1 s2 h _ _ l1 _ => .inr ?_⟩
    have hr : s1.r = [] := List.eq_nil_of_length_eq_zero (by omega)
    have hr2 := (H.nil h).1 hr
    rw [z1, no2 _ _ fun hc2 => ne2 _ hc2 hr2]
    exact ⟨h, rfl⟩
  | succ n1 ih =>
    intro n2
    refine ⟨k1 _, k2 _, k3 n2, fun s1 s2 h m1 m2 l1 l2 => ?_⟩
    by_cases hb : c1 s1
    · have hb2 := (hc _ _ h).1 hb
      have hp := List.length_pos_iff.2 (ne2 _ hb2)
      obtain ⟨n2, rfl⟩ : ∃ m, n2 = m + 1 := ⟨n2 - 1, by omega⟩
      rw [ye1 _ _ hb, ye2 _ _ hb2]
      have e1 := eat1 _ hb (H.er1 h)
      have e2 := eat2 _ hb2 (H.er2 h)
      rcases hf.sim _ _ h m1 m2 with hl | ⟨hs3, he3⟩
      · exact .inl (k1 _ _ hl)
      · rcases (ih n2).2.2.2 _ _ hs3 (Nat.le_trans (hf.d1 _) m1) (Nat.le_trans (hf.d2 _) m2) (by omega) (by omega) with hl | ⟨hs4, he4⟩
        · exact .inl hl
        · exact .inr ⟨hs4, by rw [he3, he4]⟩
    · rw [no1 _ _ hb, no2 _ _ fun hb2 => hb ((hc _ _ h).2 hb2)]
      exact .inr ⟨h, rfl⟩
omit H in
theorem Good.fuel {L1 L2 : Nat → P (List α)} (h : ∀ (n1 n2 : Nat),
    (∀ s, Lo s → Lo (L1 n1 s).2) ∧ (∀ s, ms (L1 n1 s).2 ≤ ms s) ∧ (∀ s, ms (L2 n2 s).2 ≤ ms s) ∧
    ∀ s1 s2, Sm s1 s2 → ms s1 ≤ N1 → ms s2 ≤ N2 → s1.r.length ≤ n1 → s2.r.length ≤ n2 → Lo (L1 n1 s1).2 ∨ (Sm (L1 n1 s1).2 (L2 n2 s2).2 ∧ (L1 n1 s1).1 = (L2 n2 s2).1)) :
    Good Sm Lo N1 N2 (fun s => L1 s.r.length s) (fun s => L2 s.r.length s) where
  keep s hl := (h s.r.length 0).1 s hl
  d1 s := (h s.r.length 0).2.1 s
  d2 s := (h 0 s.r.length).2.2.1 s
  sim s1 s2 hs m1 m2 := (h s1.r.length s2.r.length).2.2.2 s1 s2 hs m1 m2 (Nat.le_refl _) (Nat.le_refl _)
theorem Good.items {f g : P (List It)} (hf : Good Sm Lo N1 N2 (itemP E1 f) (itemP E2 g)) (d1 : Dec f) (d2 : Dec g) : Good Sm Lo N1 N2 (itemsP E1 (itemP E1 f)) (itemsP E2 (itemP E2 g)) := by
  have hl := Good.fuel (Good.loop H (itemsL E1 (itemP E1 f)) (itemsL E2 (itemP E2 g)) (fun s => s.r ≠ [] ∧ seesB E1 [125] s = false) (fun s => s.r ≠ [] ∧ seesB E2 [125] s = false) hf
    (fun _ => rfl) (fun n s h => itemsL_no n h) (fun n s h => itemsL_no n h) (fun n s h => itemsL_yes n h) (fun n s h => itemsL_yes n h) (fun s h => h.1)
    (fun s1 s2 h => by rw [sees_same H h, Ne, H.nil h]) (fun s h he => itemP_eats d1 h.1 he) (fun s h he => itemP_eats d2 h.1 he) (fun _ => rfl))
  exact hl.bind (k := fun l => do expectP E1 [125]; Pure.pure l) (k' := fun l => do expectP E2 [125]; Pure.pure l) fun l => (Good.expect H _).bind fun _ => Good.pure l
omit H in
theorem itemsN_err {E : Nat} {s : St} (he : s.e ≠ 0) (hr : s.r = []) : ∀ n, itemsN E n s = ([], s)
  | 0 => rfl
  | n + 1 => by
    show (itemsP E (itemP E (itemsN E n))) s = _
    have h1 : itemsL E (itemP E (itemsN E n)) s.r.length s = ([], s) := itemsL_no _ fun h => h.1 hr
    show ((itemsL E (itemP E (itemsN E n)) s.r.length s).1, (expectP E [125] (itemsL E (itemP E (itemsN E n)) s.r.length s).2).2) = _
    rw [h1]
    show (([] : List It), (readS E (seesB E [125] s) s).2) = _
    have h2 : seesB E [125] s = false := by
      cases hb : seesB E [125] s with
      | false => rfl
      | true => exact absurd hr (sees_ne hb)
    rw [h2]
    show (([] : List It), failS E 3 s) = _
    rw [failS_err 3 he]
omit H in
theorem solo {E : Nat} (H1 : Rl E E (fun _ _ => False) Lo) : ∀ (n N1 N2 : Nat), Good (fun _ _ => False) Lo N1 N2 (itemsN E n) (itemsN E n)
  | 0, _, _ => Good.pure _
  | n + 1, _, _ => Good.items H1 (Good.item H1 (Good.block H1 (solo H1 n _ _)) (itemsN_dec n) (itemsN_dec n)) (itemsN_dec n) (itemsN_dec n)
omit H in
theorem rl_lo {E : Nat} (lt : ∀ {s}, Lo s → Lo ⟨s.r.tail, s.a, s.e⟩) (lf : ∀ {s} (x : Nat), x ≠ 0 → Lo s → Lo (failS E x s)) : Rl E E (fun _ _ => False) Lo :=
  ⟨fun h => h.elim, fun h => h.elim, fun h => h.elim, fun h => h.elim, fun h => h.elim, fun h => h.elim, fun _ _ h => h.elim, lt, lf⟩
theorem Good.itemsN : ∀ (n1 n2 : Nat), Good Sm Lo n1 n2 (Go.Proofs.YtekpefcggikcbaaGreatDoor.itemsN E1 n1) (Go.Proofs.YtekpefcggikcbaaGreatDoor.itemsN E2 n2) := by
  have s1 := fun n => solo (Lo := Lo) (rl_lo (E := E1) (fun h => H.lt h) (fun x hx h => H.lf x hx h)) n 0 0
  have s2 := fun n => solo (Lo := fun _ => False) (rl_lo (E := E2) (fun h => h.elim) (fun _ _ h => h.elim)) n 0 0
  have err : ∀ n1 n2 t1 t2, Sm t1 t2 → t1.e ≠ 0 → Lo (Go.Proofs.YtekpefcggikcbaaGreatDoor.itemsN E1 n1 t1).2 ∨ (Sm (Go.Proofs.YtekpefcggikcbaaGreatDoor.itemsN E1 n1 t1).2 (Go.Proofs.YtekpefcggikcbaaGreatDoor.itemsN E2 n2 t2).2 ∧ (Go.Proofs.YtekpefcggikcbaaGreatDoor.itemsN E1 n1 t1).1 = (Go.Proofs.YtekpefcggikcbaaGreatDoor.itemsN E2 n2 t2).1) := by
    intro n1 n2 t1 t2 h he
    have he2 : t2.e ≠ 0 := fun h2 => he ((H.z h).2 h2)
    rw [itemsN_err he (H.er1 h he), itemsN_err he2 (H.er2 h he2)]
    exact .inr ⟨h, rfl⟩
  intro n1
  induction n1 with
  | zero =>
    intro n2
    refine ⟨(s1 0).keep, (s1 0).d1, (s2 n2).d1, fun t1 t2 h m1 _ => err 0 n2 t1 t2 h fun he => ?_⟩
    rw [ms_ok he] at m1
    omega
  | succ n1 ih =>
    intro n2
    cases n2 with
    | zero =>
      refine ⟨(s1 _).keep, (s1 _).d1, (s2 0).d1, fun t1 t2 h _ m2 => err (n1 + 1) 0 t1 t2 h fun he => ?_⟩
      rw [ms_ok ((H.z h).1 he)] at m2
      omega
    | succ n2 => exact Good.items H (Good.item H (Good.block H (ih n2)) (itemsN_dec n1) (itemsN_dec n2)) (itemsN_dec n1) (itemsN_dec n2)
theorem Good.body : Good Sm Lo N1 N2 (bodyP E1) (bodyP E2) where
  keep s h := (Good.itemsN H (s.r.length + 1) 0).keep s h
  d1 s := (Good.itemsN H (s.r.length + 1) 0).d1 s
  d2 s := (Good.itemsN H 0 (s.r.length + 1)).d2 s
  sim s1 s2 h _ _ := (Good.itemsN H (s1.r.length + 1) (s2.r.length + 1)).sim s1 s2 h (by unfold ms; split <;> omega) (by unfold ms; split <;> omega)
theorem Good.messages : Good Sm Lo N1 N2 (messagesP E1) (messagesP E2) :=
  Good.fuel (Good.loop H (messagesL E1) (messagesL E2) (fun s => seesB E1 [109, 101, 115, 115, 97, 103, 101] s = true) (fun s => seesB E2 [109, 101, 115, 115, 97, 103, 101] s = true) (Good.message H)
    (fun _ => rfl) (fun n s h => messagesL_no n (by simpa using h)) (fun n s h => messagesL_no n (by simpa using h)) (fun n s h => messagesL_yes n h) (fun n s h => messagesL_yes n h) (fun s h => sees_ne h)
    (fun s1 s2 h => by rw [sees_same H h]) (fun s h he => messageP_eats (sees_ne h) he) (fun s h he => messageP_eats (sees_ne h) he) (fun _ => rfl))
theorem Good.protocol : Good Sm Lo N1 N2 (protocolP E1) (protocolP E2) := (Good.expect H _).bind fun _ => (Good.word H).bind fun _ => (Good.expect H _).bind fun _ => (Good.words H).bind fun _ => (Good.expect H _).bind fun _ => (Good.expect H _).bind fun _ => (Good.messages H).bind fun _ => (Good.body H).bind fun _ => Good.pure _
theorem Good.source : Good Sm Lo N1 N2 (sourceP E1) (sourceP E2) :=
  Good.fuel (Good.loop H (sourceL E1) (sourceL E2) (fun s => s.r ≠ []) (fun s => s.r ≠ []) (Good.protocol H)
    (fun _ => rfl) (fun n s h => sourceL_no n (by simpa using h)) (fun n s h => sourceL_no n (by simpa using h)) (fun n s h => sourceL_yes n h) (fun n s h => sourceL_yes n h) (fun s h => h)
    (fun s1 s2 h => by rw [Ne, Ne, H.nil h]) (fun s h he => protocolP_eats h he) (fun s h he => protocolP_eats h he) (fun _ => rfl))
end
/-- Behind the first wrong token: what stands behind it does not matter. -/
theorem first_rl {E1 E2 : Nat} {t0 : Tok} {r1 r2 : List Tok} (hE : t0.p < E1) (hr : ∀ t ∈ r1, t0.p < t.p) :
    Rl E1 E2 (fun s1 s2 => (∃ x, s1.r = x ++ t0 :: r1 ∧ s2.r = x ++ t0 :: r2 ∧ s1.e = 0 ∧ s2.e = 0 ∧ s1.a = s2.a) ∨ (s1.e ≠ 0 ∧ s1.e = s2.e ∧ s1.r = [] ∧ s2.r = [] ∧ s1.a = s2.a))
      (fun s => (s.e = 0 ∧ ∀ t ∈ s.r, t0.p < t.p) ∨ (s.e ≠ 0 ∧ t0.p < s.a)) where
  nx h := by
    rcases h with ⟨x, h1, h2, -⟩ | ⟨-, -, h1, h2, -⟩
    · unfold nextT
      rw [h1, h2]
      cases x <;> exact ⟨rfl, rfl, rfl⟩
    · unfold nextT
      rw [h1, h2]
      exact ⟨rfl, rfl, rfl⟩
  nil h := by
    rcases h with ⟨x, h1, h2, -⟩ | ⟨-, -, h1, h2, -⟩
    · rw [h1, h2]; simp
    · rw [h1, h2]
  er1 h he := by
    rcases h with ⟨x, -, -, h1, -⟩ | ⟨-, -, h1, -, -⟩
    · exact absurd h1 he
    · exact h1
  er2 h he := by
    rcases h with ⟨x, -, -, -, h1, -⟩ | ⟨-, -, -, h1, -⟩
    · exact absurd h1 he
    · exact h1
  z h := by
    rcases h with ⟨x, -, -, h1, h2, -⟩ | ⟨h1, h2, -⟩
    · rw [h1, h2]
    · rw [h2]
  tl {s1 s2} h := by
    rcases h with ⟨x, h1, h2, h3, h4, h5⟩ | ⟨h1, h2, h3, h4, h5⟩
    · cases x with
      | nil => exact .inl (.inl ⟨h3, by show ∀ t ∈ s1.r.tail, _; rw [h1]; exact hr⟩)
      | cons y x => exact .inr (.inl ⟨x, by show s1.r.tail = _; rw [h1]; rfl, by show s2.r.tail = _; rw [h2]; rfl, h3, h4, h5⟩)
    · exact .inr (.inr ⟨h1, h2, by show s1.r.tail = _; rw [h3]; rfl, by show s2.r.tail = _; rw [h4]; rfl, h5⟩)
  fl {s1 s2} x hx h := by
    right
    rcases h with ⟨y, h1, h2, h3, h4, h5⟩ | ⟨h1, h2, h3, h4, h5⟩
    · rw [failS_ok x h3, failS_ok x h4]
      refine .inr ⟨hx, rfl, rfl, rfl, ?_⟩
      show (nextT E1 s1).p = (nextT E2 s2).p
      unfold nextT
      rw [h1, h2]
      cases y <;> rfl
    · rw [failS_err x h1, failS_err x (by rw [← h2]; exact h1)]
      exact .inr ⟨h1, h2, h3, h4, h5⟩
  lt {s} h := by
    rcases h with ⟨h1, h2⟩ | h
    · exact .inl ⟨h1, fun t ht => h2 t (List.mem_of_mem_tail ht)⟩
    · exact .inr h
  lf {s} x hx h := by
    rcases h with ⟨h1, h2⟩ | ⟨h1, h2⟩
    · rw [failS_ok x h1]
      refine .inr ⟨hx, ?_⟩
      show t0.p < (nextT E1 s).p
      unfold nextT
      cases hs : s.r with
      | nil => exact hE
      | cons t r => exact h2 t (by rw [hs]; simp)
    · rw [failS_err x h1]; exact .inr ⟨h1, h2⟩
/-- The error of a source that fails at a token is that of any source with the same tokens up to it. -/
theorem source_first {E1 E2 : Nat} {t0 : Tok} {x r1 r2 : List Tok} (hE : t0.p < E1) (hr : ∀ t ∈ r1, t0.p < t.p) (he : (sourceP E1 ⟨x ++ t0 :: r1, 0, 0⟩).2.e ≠ 0) (ha : (sourceP E1 ⟨x ++ t0 :: r1, 0, 0⟩).2.a = t0.p) :
    (sourceP E2 ⟨x ++ t0 :: r2, 0, 0⟩).2.e = (sourceP E1 ⟨x ++ t0 :: r1, 0, 0⟩).2.e ∧ (sourceP E2 ⟨x ++ t0 :: r2, 0, 0⟩).2.a = t0.p := by
  rcases (Good.source (first_rl (E2 := E2) (r2 := r2) hE hr)).sim ⟨x ++ t0 :: r1, 0, 0⟩ ⟨x ++ t0 :: r2, 0, 0⟩ (.inl ⟨x, rfl, rfl, rfl, rfl, rfl⟩) (Nat.le_refl _) (Nat.le_refl _) with (⟨h, -⟩ | ⟨-, h⟩) | ⟨(⟨y, -, -, h, -⟩ | ⟨-, h2, -, -, h3⟩), -⟩
  · exact absurd h he
  · rw [ha] at h; omega
  · exact absurd h he
  · exact ⟨h2.symm, by rw [← h3, ha]⟩
/- Layer 10: what the parser reads depends on the tokens, not on their places. -/
/-- A token without its place. -/
def tkv (t : Tok) : Nat × Bs × Nat := (t.k, t.t, t.v)
/-- Two runs over tokens that differ in their places at most. -/
def SmB (s1 s2 : St) : Prop := (s1.r.map tkv = s2.r.map tkv ∧ s1.e = 0 ∧ s2.e = 0) ∨ (s1.e ≠ 0 ∧ s1.e = s2.e ∧ s1.r = [] ∧ s2.r = [])
theorem SmB.len {s1 s2 : St} (h : SmB s1 s2) : s1.r.length = s2.r.length := by
  rcases h with ⟨h, -⟩ | ⟨-, -, h1, h2⟩
  · have := congrArg List.length h
    simpa using this
  · rw [h1, h2]
theorem SmB.err {s1 s2 : St} (h : SmB s1 s2) : s1.e = s2.e := by
  rcases h with ⟨-, h1, h2⟩ | ⟨-, h, -⟩
  · rw [h1, h2]
  · exact h
theorem blanks_rl {E1 E2 : Nat} : Rl E1 E2 SmB (fun _ => False) where
  nx {s1 s2} h := by
    rcases h with ⟨h, -⟩ | ⟨-, -, h1, h2⟩
    · unfold nextT
      cases h1 : s1.r with
      | nil =>
        cases h2 : s2.r with
        | nil => exact ⟨rfl, rfl, rfl⟩
        | cons u r => rw [h1, h2] at h; cases h
      | cons t r =>
        cases h2 : s2.r with
        | nil => rw [h1, h2] at h; cases h
        | cons u q =>
          rw [h1, h2] at h
          simp only [List.map_cons, List.cons.injEq, tkv, Prod.mk.injEq] at h
          exact ⟨h.1.1, h.1.2.1, h.1.2.2⟩
    · unfold nextT
      rw [h1, h2]
      exact ⟨rfl, rfl, rfl⟩
  nil {s1 s2} h := by
    have := h.len
    rw [← List.length_eq_zero_iff, ← List.length_eq_zero_iff, this]
  er1 {s1 s2} h he := by
    rcases h with ⟨-, h1, -⟩ | ⟨-, -, h1, -⟩
    · exact absurd h1 he
    · exact h1
  er2 {s1 s2} h he := by
    rcases h with ⟨-, -, h1⟩ | ⟨-, -, -, h1⟩
    · exact absurd h1 he
    · exact h1
  z {s1 s2} h := by rw [h.err]
  tl {s1 s2} h := by
    rcases h with ⟨h1, h2, h3⟩ | ⟨h1, h2, h3, h4⟩
    · exact .inr (.inl ⟨by show s1.r.tail.map tkv = s2.r.tail.map tkv; rw [List.map_tail, List.map_tail, h1], h2, h3⟩)
    · exact .inr (.inr ⟨h1, h2, by show s1.r.tail = _; rw [h3]; rfl, by show s2.r.tail = _; rw [h4]; rfl⟩)
  fl {s1 s2} x hx h := by
    right
    rcases h with ⟨-, h3, h4⟩ | ⟨h1, h2, h3, h4⟩
    · rw [failS_ok x h3, failS_ok x h4]
      exact .inr ⟨hx, rfl, rfl, rfl⟩
    · rw [failS_err x h1, failS_err x (by rw [← h2]; exact h1)]
      exact .inr ⟨h1, h2, h3, h4⟩
  lt h := h
  lf _ _ h := h
/-- The protocols, and the error, of tokens that differ in their places at most. -/
theorem source_blanks {E1 E2 a1 a2 : Nat} {r1 r2 : List Tok} (h : r1.map tkv = r2.map tkv) :
    (sourceP E1 ⟨r1, a1, 0⟩).1 = (sourceP E2 ⟨r2, a2, 0⟩).1 ∧ (sourceP E1 ⟨r1, a1, 0⟩).2.e = (sourceP E2 ⟨r2, a2, 0⟩).2.e := by
  rcases (Good.source (N1 := ms ⟨r1, a1, 0⟩) (N2 := ms ⟨r2, a2, 0⟩) (blanks_rl (E1 := E1) (E2 := E2))).sim ⟨r1, a1, 0⟩ ⟨r2, a2, 0⟩ (.inl ⟨h, rfl, rfl⟩) (Nat.le_refl _) (Nat.le_refl _) with h1 | ⟨h1, h2⟩
  · exact h1.elim
  · exact ⟨h2, SmB.err h1⟩
/- Layer 10: the protocols of two sources, one behind the other: what the parser reads of the first does not depend on what stands behind it. -/
/-- Run 1 has tokens left, run 2 has the same ones and tb behind. -/
def SmE (tb : List Tok) (s1 s2 : St) : Prop := s1.r ≠ [] ∧ s1.e = 0 ∧ s2.e = 0 ∧ ∃ x, s2.r = x ++ tb ∧ x.map tkv = s1.r.map tkv
def SmF (tb : List Tok) (s1 s2 : St) : Prop := s1.e = 0 ∧ s2.e = 0 ∧ ∃ x, s2.r = x ++ tb ∧ x.map tkv = s1.r.map tkv
theorem ext_rl {E1 E2 : Nat} (tb : List Tok) : Rl E1 E2 (SmE tb) (fun s => s.r = []) where
  nx {s1 s2} h := by
    obtain ⟨h1, h2, h3, x, h4, h5⟩ := h
    unfold nextT
    cases hr : s1.r with
    | nil => exact absurd hr h1
    | cons t r =>
      cases x with
      | nil => rw [hr] at h5; cases h5
      | cons u q =>
        rw [h4]
        rw [hr] at h5
        simp only [List.map_cons, List.cons.injEq, tkv, Prod.mk.injEq] at h5
        exact ⟨h5.1.1.symm, h5.1.2.1.symm, h5.1.2.2.symm⟩
  nil {s1 s2} h := by
    obtain ⟨h1, h2, h3, x, h4, h5⟩ := h
    refine ⟨fun e => absurd e h1, fun e => ?_⟩
    rw [h4] at e
    have hx : x = [] := (List.append_eq_nil_iff.1 e).1
    rw [hx] at h5
    exact List.map_eq_nil_iff.1 h5.symm
  er1 {s1 s2} h he := absurd h.2.1 he
  er2 {s1 s2} h he := absurd h.2.2.1 he
  z {s1 s2} h := by rw [h.2.1, h.2.2.1]
  tl {s1 s2} h := by
    obtain ⟨h1, h2, h3, x, h4, h5⟩ := h
    by_cases ht : s1.r.tail = []
    · exact .inl ht
    · refine .inr ⟨ht, h2, h3, x.tail, ?_, ?_⟩
      · show s2.r.tail = _
        cases x with
        | nil => exact absurd (List.map_eq_nil_iff.1 h5.symm) h1
        | cons u q => rw [h4]; rfl
      · show x.tail.map tkv = s1.r.tail.map tkv
        rw [List.map_tail, List.map_tail, h5]
  fl {s1 s2} x hx h := .inl (by rw [failS_ok x h.2.1])
  lt {s} h := by show s.r.tail = []; rw [show s.r = [] from h]; rfl
  lf {s} x hx h := by
    by_cases he : s.e = 0
    · rw [failS_ok x he]
    · rw [failS_err x he]; exact h
/-- A body without its closing brace. -/
def bodyQ (E : Nat) : P (List It) := fun s => itemsL E (itemP E (itemsN E s.r.length)) s.r.length s
def protocolQ (E : Nat) : P Pr := do
  expectP E [112, 114, 111, 116, 111, 99, 111, 108]
  let nm ← wordP E
  expectP E [40]
  let rs ← wordsP E
  expectP E [41]
  expectP E [123]
  let ms ← messagesP E
  let bd ← bodyQ E
  pure ⟨nm, rs, ms, bd⟩
theorem bodyQ_eq (E : Nat) : bodyP E = fun s => ((bodyQ E s).1, (expectP E [125] (bodyQ E s).2).2) := rfl
theorem seq_eq (f1 : P Unit) (f2 : P Bs) (f3 : P Unit) (f4 : P (List Bs)) (f5 f6 : P Unit) (f7 : P (List Ms)) (f8 : P (List It)) (x : P Unit) (s : St) :
    (do f1; let nm ← f2; f3; let rs ← f4; f5; f6; let ms ← f7; let bd ← (fun s => ((f8 s).1, (x (f8 s).2).2) : P (List It)); pure ⟨nm, rs, ms, bd⟩ : P Pr) s =
      (((do f1; let nm ← f2; f3; let rs ← f4; f5; f6; let ms ← f7; let bd ← f8; pure ⟨nm, rs, ms, bd⟩ : P Pr) s).1, (x ((do f1; let nm ← f2; f3; let rs ← f4; f5; f6; let ms ← f7; let bd ← f8; pure ⟨nm, rs, ms, bd⟩ : P Pr) s).2).2) := rfl
theorem protocolQ_eq (E : Nat) (s : St) : protocolP E s = ((protocolQ E s).1, (expectP E [125] (protocolQ E s).2).2) := by
  unfold protocolP protocolQ
  rw [bodyQ_eq]
  exact seq_eq _ _ _ _ _ _ _ _ _ _
theorem Good.less {Sm : St → St → Prop} {Lo : St → Prop} {N1 N2 M1 M2 : Nat} {α : Type} {f g : P α} (h : Good Sm Lo N1 N2 f g) (h1 : M1 ≤ N1) (h2 : M2 ≤ N2) : Good Sm Lo M1 M2 f g :=
  ⟨h.keep, h.d1, h.d2, fun s1 s2 hs m1 m2 => h.sim s1 s2 hs (Nat.le_trans m1 h1) (Nat.le_trans m2 h2)⟩
section
variable {E1 E2 : Nat} {Sm : St → St → Prop} {Lo : St → Prop} (H : Rl E1 E2 Sm Lo) {N1 N2 : Nat}
include H
theorem itemsQ_good (n1 n2 : Nat) (hf : ∀ M1 M2, M1 ≤ n1 + 1 → M2 ≤ n2 + 1 → Good Sm Lo M1 M2 (itemP E1 (itemsN E1 n1)) (itemP E2 (itemsN E2 n2))) : Good Sm Lo (n1 + 1) (n2 + 1) (fun s => itemsL E1 (itemP E1 (itemsN E1 n1)) s.r.length s) (fun s => itemsL E2 (itemP E2 (itemsN E2 n2)) s.r.length s) :=
  Good.fuel (Good.loop H (itemsL E1 (itemP E1 (itemsN E1 n1))) (itemsL E2 (itemP E2 (itemsN E2 n2))) (fun s => s.r ≠ [] ∧ seesB E1 [125] s = false) (fun s => s.r ≠ [] ∧ seesB E2 [125] s = false) (hf _ _ (Nat.le_refl _) (Nat.le_refl _))
    (fun _ => rfl) (fun n s h => itemsL_no n h) (fun n s h => itemsL_no n h) (fun n s h => itemsL_yes n h) (fun n s h => itemsL_yes n h) (fun s h => h.1)
    (fun s1 s2 h => by rw [sees_same H h, Ne, H.nil h]) (fun s h he => itemP_eats (itemsN_dec n1) h.1 he) (fun s h he => itemP_eats (itemsN_dec n2) h.1 he) (fun _ => rfl))
theorem bodyQ_good : Good Sm Lo N1 N2 (bodyQ E1) (bodyQ E2) := by
  have one : ∀ n1 n2, Good Sm Lo (n1 + 1) (n2 + 1) (fun s => itemsL E1 (itemP E1 (itemsN E1 n1)) s.r.length s) (fun s => itemsL E2 (itemP E2 (itemsN E2 n2)) s.r.length s) := fun n1 n2 =>
    itemsQ_good H n1 n2 fun M1 M2 h1 h2 => Good.item H (Good.block H (Good.less (Good.itemsN H n1 n2) (by omega) (by omega))) (itemsN_dec n1) (itemsN_dec n2)
  exact ⟨fun s h => (one s.r.length 0).keep s h, fun s => (one s.r.length 0).d1 s, fun s => (one 0 s.r.length).d2 s, fun s1 s2 h _ _ => (one s1.r.length s2.r.length).sim s1 s2 h (by unfold ms; split <;> omega) (by unfold ms; split <;> omega)⟩
theorem protocolQ_good : Good Sm Lo N1 N2 (protocolQ E1) (protocolQ E2) :=
  (Good.expect H _).bind fun _ => (Good.word H).bind fun _ => (Good.expect H _).bind fun _ => (Good.words H).bind fun _ => (Good.expect H _).bind fun _ => (Good.expect H _).bind fun _ => (Good.messages H).bind fun _ => (bodyQ_good H).bind fun _ => Good.pure _
end
theorem expect_fail {E : Nat} {x : Bs} {q : St} (h : seesB E x q = false) : (expectP E x q).2.e ≠ 0 := by
  show (readS E (seesB E x q) q).2.e ≠ 0
  rw [h]
  show (failS E 3 q).e ≠ 0
  by_cases he : q.e = 0
  · rw [failS_ok 3 he]
    show (3 : Nat) ≠ 0
    omega
  · rw [failS_err 3 he]; exact he
theorem step_ext {E1 E2 : Nat} {tb : List Tok} {s1 s2 : St} (h : SmE tb s1 s2) (he : (protocolP E1 s1).2.e = 0) : (protocolP E1 s1).1 = (protocolP E2 s2).1 ∧ SmF tb (protocolP E1 s1).2 (protocolP E2 s2).2 := by
  rw [protocolQ_eq] at he
  rw [protocolQ_eq E1, protocolQ_eq E2]
  dsimp only at he ⊢
  rcases (protocolQ_good (N1 := ms s1) (N2 := ms s2) (ext_rl (E1 := E1) (E2 := E2) tb)).sim s1 s2 h (Nat.le_refl _) (Nat.le_refl _) with hl | ⟨hs, hv⟩
  · refine absurd he (expect_fail ?_)
    cases hb : seesB E1 [125] (protocolQ E1 s1).2 with
    | false => rfl
    | true => exact absurd hl (sees_ne hb)
  · refine ⟨hv, ?_⟩
    generalize (protocolQ E1 s1).2 = q1 at he hs ⊢
    generalize (protocolQ E2 s2).2 = q2 at hs ⊢
    have hsee := sees_same (ext_rl (E1 := E1) (E2 := E2) tb) hs [125]
    cases hb : seesB E1 [125] q1 with
    | false => exact absurd he (expect_fail hb)
    | true =>
      rw [hb] at hsee
      show SmF tb (readS E1 (seesB E1 [125] q1) q1).2 (readS E2 (seesB E2 [125] q2) q2).2
      rw [hb, ← hsee]
      obtain ⟨h1, h2, h3, x, h4, h5⟩ := hs
      refine ⟨h2, h3, x.tail, ?_, ?_⟩
      · show q2.r.tail = _
        cases x with
        | nil => exact absurd (List.map_eq_nil_iff.1 h5.symm) h1
        | cons u q => rw [h4]; rfl
      · show x.tail.map tkv = q1.r.tail.map tkv
        rw [List.map_tail, List.map_tail, h5]
theorem same_rl {E : Nat} : Rl E E (fun s1 s2 => s1 = s2 ∧ (s1.e ≠ 0 → s1.r = [])) (fun _ => False) where
  nx h := by rw [h.1]; exact ⟨rfl, rfl, rfl⟩
  nil h := by rw [h.1]
  er1 h he := h.2 he
  er2 h he := by rw [← h.1]; exact h.2 (by rw [h.1]; exact he)
  z h := by rw [h.1]
  tl {s1 s2} h := by
    obtain ⟨rfl, h2⟩ := h
    exact .inr ⟨rfl, fun he => by show s1.r.tail = []; rw [h2 he]; rfl⟩
  fl {s1 s2} x hx h := by
    obtain ⟨rfl, h2⟩ := h
    refine .inr ⟨rfl, fun _ => ?_⟩
    by_cases he : s1.e = 0
    · rw [failS_ok x he]
    · rw [failS_err x he]; exact h2 he
  lt h := h
  lf _ _ h := h
theorem prot_err {E : Nat} {s : St} (h : s.e ≠ 0 → s.r = []) (he : (protocolP E s).2.e ≠ 0) : (protocolP E s).2.r = [] := by
  rcases (Good.protocol (N1 := ms s) (N2 := ms s) (same_rl (E := E))).sim s s ⟨rfl, h⟩ (Nat.le_refl _) (Nat.le_refl _) with h1 | ⟨h1, -⟩
  · exact h1.elim
  · exact h1.2 he
theorem source_fuel {E : Nat} : ∀ (n m : Nat) (s : St), (s.e ≠ 0 → s.r = []) → s.r.length ≤ n → s.r.length ≤ m → sourceL E n s = sourceL E m s := by
  intro n
  induction n with
  | zero =>
    intro m s _ h1 _
    have : s.r = [] := List.eq_nil_of_length_eq_zero (by omega)
    rw [sourceL_no _ this, sourceL_no _ this]
  | succ n ih =>
    intro m s he h1 h2
    by_cases hr : s.r = []
    · rw [sourceL_no _ hr, sourceL_no _ hr]
    · have hp : 0 < s.r.length := List.length_pos_iff.2 hr
      obtain ⟨m, rfl⟩ : ∃ k, m = k + 1 := ⟨m - 1, by omega⟩
      have hd := protocolP_eats (E := E) hr he
      rw [sourceL_yes _ hr, sourceL_yes _ hr, ih m _ (prot_err he) (by omega) (by omega)]
/-- What the loop reads of the first tokens, and then of those behind them. -/
theorem source_ext {E1 E2 : Nat} {tb : List Tok} : ∀ (n1 n2 : Nat) (s1 s2 : St), SmF tb s1 s2 → s1.r.length ≤ n1 → s2.r.length ≤ n2 → (sourceL E1 n1 s1).2.e = 0 →
    ∃ s3 n3, s3.r = tb ∧ s3.e = 0 ∧ tb.length ≤ n3 ∧ sourceL E2 n2 s2 = ((sourceL E1 n1 s1).1 ++ (sourceL E2 n3 s3).1, (sourceL E2 n3 s3).2) := by
  intro n1
  induction n1 with
  | zero =>
    intro n2 s1 s2 h h1 h2 he
    have hr : s1.r = [] := List.eq_nil_of_length_eq_zero (by omega)
    obtain ⟨h3, h4, x, h5, h6⟩ := h
    rw [hr] at h6
    have hx : x = [] := List.map_eq_nil_iff.1 h6
    subst hx
    exact ⟨s2, n2, h5, h4, by rw [h5] at h2; exact h2, by rw [sourceL_no _ hr]; rfl⟩
  | succ n1 ih =>
    intro n2 s1 s2 h h1 h2 he
    by_cases hr : s1.r = []
    · obtain ⟨h3, h4, x, h5, h6⟩ := h
      rw [hr] at h6
      have hx : x = [] := List.map_eq_nil_iff.1 h6
      subst hx
      exact ⟨s2, n2, h5, h4, by rw [h5] at h2; exact h2, by rw [sourceL_no _ hr]; rfl⟩
    · obtain ⟨h3, h4, x, h5, h6⟩ := h
      have hE : SmE tb s1 s2 := ⟨hr, h3, h4, x, h5, h6⟩
      have hx : x ≠ [] := fun e => by rw [e] at h6; exact hr (List.map_eq_nil_iff.1 h6.symm)
      have hr2 : s2.r ≠ [] := fun e => by rw [h5] at e; exact hx (List.append_eq_nil_iff.1 e).1
      have hp : 0 < s2.r.length := List.length_pos_iff.2 hr2
      obtain ⟨n2, rfl⟩ : ∃ k, n2 = k + 1 := ⟨n2 - 1, by omega⟩
      rw [sourceL_yes _ hr] at he ⊢
      rw [sourceL_yes _ hr2]
      dsimp only at he ⊢
      have hz : (protocolP E1 s1).2.e = 0 := Classical.byContradiction fun hz => by
        have hp0 : (protocolP E1 s1).2.r = [] := prot_err (E := E1) (s := s1) (fun h => absurd h3 h) hz
        generalize (protocolP E1 s1).2 = q at he hz hp0
        have hn := sourceL_no (E := E1) n1 hp0
        rw [hn] at he
        exact hz he
      have d1 := protocolP_eats (E := E1) hr (fun h => absurd h3 h)
      have d2 := protocolP_eats (E := E2) hr2 (fun h => absurd h4 h)
      obtain ⟨hv, hF⟩ := step_ext (E2 := E2) hE hz
      obtain ⟨s3, n3, g1, g2, g3, g4⟩ := ih n2 _ _ hF (by omega) (by omega) he
      exact ⟨s3, n3, g1, g2, g3, by rw [g4, hv]; rfl⟩
/-- The protocols of tokens ra' ++ rb' are those of ra and those of rb, if ra has no error, and the error is that of rb. -/
theorem source_parts {E1 E2 E3 : Nat} {ra rb ra' rb' : List Tok} (ha : ra'.map tkv = ra.map tkv) (hb : rb'.map tkv = rb.map tkv) (he : (sourceP E1 ⟨ra, 0, 0⟩).2.e = 0) :
    (sourceP E2 ⟨ra' ++ rb', 0, 0⟩).1 = (sourceP E1 ⟨ra, 0, 0⟩).1 ++ (sourceP E3 ⟨rb, 0, 0⟩).1 ∧ (sourceP E2 ⟨ra' ++ rb', 0, 0⟩).2.e = (sourceP E3 ⟨rb, 0, 0⟩).2.e := by
  obtain ⟨s3, n3, g1, g2, g3, g4⟩ := source_ext (E1 := E1) (E2 := E2) (tb := rb') ra.length (ra' ++ rb').length ⟨ra, 0, 0⟩ ⟨ra' ++ rb', 0, 0⟩ ⟨rfl, rfl, ra', rfl, ha⟩ (Nat.le_refl _) (Nat.le_refl _) he
  have e1 : sourceP E2 ⟨ra' ++ rb', 0, 0⟩ = _ := g4
  rw [e1]
  obtain ⟨r3, a3, e3⟩ := s3
  simp only at g1 g2
  subst g1
  subst g2
  rw [source_fuel n3 r3.length ⟨r3, a3, 0⟩ (fun h => absurd rfl h) g3 (Nat.le_refl _)]
  have hbl := source_blanks (E1 := E2) (E2 := E3) (a1 := a3) (a2 := 0) hb
  exact ⟨by show _ ++ (sourceP E2 ⟨r3, a3, 0⟩).1 = _; rw [hbl.1]; rfl, hbl.2⟩
/- Layer 10: the canonical source, plainly. -/
def itoaB (n : Int) : Bs := Go.Lib.itoa n
def showAddedB (n : Int) : Bs := if 0 < n then [32, 43, 32] ++ itoaB n else if n < 0 then [32, 45, 32] ++ itoaB (-n) else []
def showFieldOf (m f : Bs) : Bs := if m = [] then f else m ++ [46] ++ f
def showTermB (t : Tm) : Bs := if t.k = 1 then itoaB t.n else (if t.k = 3 then [108, 101, 110, 40] ++ showFieldOf t.m t.f ++ [41] else showFieldOf t.m t.f) ++ showAddedB t.n
def showAtomB (a : Am) : Bs := showTermB a.l ++ [32] ++ a.op ++ [32] ++ showTermB a.r
def showFieldB (f : Fd) : Bs := f.nm ++ [58, 32] ++ (if f.k = 2 then [116, 101, 120, 116, 32] else [105, 110, 116, 32]) ++ itoaB f.lo ++ [46, 46] ++ itoaB f.hi
def listedB (l : List Bs) : Bs := [40] ++ joinB [44, 32] l ++ [41]
def withinB (t : Int) : Bs := if t = 0 then [] else [32, 119, 105, 116, 104, 105, 110, 32] ++ itoaB t
def lineB (d : Nat) (ps : List Bs) : Bs := List.replicate d 9 ++ ps.flatten ++ [10]
def whereB (l : List Am) : Bs := if l = [] then [] else [32, 119, 104, 101, 114, 101, 32] ++ joinB [32, 97, 110, 100, 32] (l.map showAtomB)
def msgB (d : Nat) (m : Ms) : Bs := lineB d [[109, 101, 115, 115, 97, 103, 101, 32], m.nm, listedB (m.fs.map showFieldB), whereB m.wh, [59]]
mutual
def itB (d : Nat) : It → Bs
  | .mk k fr to nm al tk bl =>
    if k = 1 then lineB d [fr, [32, 45, 62, 32], joinB [44, 32] to, [58, 32], nm, [59]]
    else if k = 2 then blksB d ([99, 104, 111, 105, 99, 101, 32, 97, 116, 32] ++ fr ++ withinB tk) [111, 114] tk bl.length 0 bl
    else if k = 3 then blksB d ([108, 111, 111, 112, 32] ++ nm) [] tk bl.length 0 bl
    else if k = 4 then lineB d [[97, 103, 97, 105, 110, 32], nm, [59]]
    else if k = 5 then blksB d [112, 97, 114] [97, 110, 100] tk bl.length 0 bl
    else if k = 6 then lineB d [[99, 97, 108, 108, 32], nm, listedB to, [32, 97, 115, 32], al, [59]]
    else []
def itsB (d : Nat) : List It → Bs
  | [] => []
  | x :: r => itB d x ++ itsB d r
def blksB (d : Nat) (head kw : Bs) (tk : Int) (n : Nat) : Nat → List (List It) → Bs
  | _, [] => lineB d [[125]]
  | i, b :: r => (if i = 0 then lineB d [head, [32, 123]] else if 0 < tk ∧ i + 1 = n then lineB d [[125, 32, 101, 108, 115, 101, 32, 123]] else lineB d [[125, 32], kw, [32, 123]]) ++ itsB (d + 1) b ++ blksB d head kw tk n (i + 1) r
end
def prB (p : Pr) : Bs := lineB 0 [[112, 114, 111, 116, 111, 99, 111, 108, 32], p.nm, listedB p.rs, [32, 123]] ++ p.ms.flatMap (msgB 1) ++ itsB 1 p.bd ++ lineB 0 [[125]]
def canonB (l : List Pr) : Bs := l.flatMap prB
end Go.Proofs.YtekpefcggikcbaaGreatDoor
