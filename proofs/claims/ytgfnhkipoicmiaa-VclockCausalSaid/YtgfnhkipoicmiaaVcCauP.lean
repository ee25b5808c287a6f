/- VclockCausal holds: for every input the law returns true, and its arguments read as before. No condition. -/
import Derived.Test.YtgfnhkipoicmiaaVcCau
import Derived.Test.YtgfnhkipoicmiaaOpenNums
import Derived.Deep.Slices
import Derived.ChangeSame
namespace Go.Proofs.Ytgfnhkipoicmiaa
open Go.ChangeShapes Go.WideShapes Go.ChangeAt Go.RowKit Go.Joins

section
variable {H : Type} {enc : TypeId × Value → H} {P : Program} {W : World}
theorem open_acts {t e q : TypeId} {f0 f1 : Field} (ht : P.underlying t = some (.slice e)) (he : P.underlying e = some (.struct #[f0, f1])) (ce : P.cellsOf e = 2) (o0 : f0.offset = 0) (o1 : f1.offset = 1) (t0 : f0.type = q) (t1 : f1.type = q) (hq : P.underlying q = some (.int .u8)) (cq : P.cellsOf q = 1) {r : Reach} {b0 : Nat} {v : Value} {d : DataW H} {p : List MemPlace}
    (hval : Value.okWide P W r b0 t v) (h0 : DataW.Trod enc P W 0 (fun _ => true) true t v d p) :
    ∃ A c es, v = .slice A (es : List (Nat × Nat)).length c ∧ Ats W (.slice A es.length c) es ∧ ∀ x ∈ es, x.1 < 256 ∧ x.2 < 256 := by
  obtain ⟨a0, len, cap, rfl⟩ := okWide_slice ht hval
  obtain ⟨fuel, hf⟩ := h0
  rcases Deep.open_slice ht hf with ⟨hcs, _⟩ | ⟨a, len', cap', m, n', D, Pl, hcs, _, hl, hm, hmm, _, hx⟩
  · simp [Value.cells] at hcs
    obtain ⟨rfl, rfl, rfl⟩ := hcs
    exact ⟨none, 0, [], rfl, .inl ⟨rfl, rfl⟩, by simp⟩
  · simp [Value.cells] at hcs
    obtain ⟨rfl, rfl, rfl⟩ := hcs
    simp only [if_true] at hmm
    rw [ce] at hx
    have each : ∀ i, i < len → ∃ x : Nat × Nat, (W.cell? (a.add (i * 2)) = some (.int .u8 (x.1 : Int)) ∧ W.cell? ⟨(a.add (i * 2)).block, (a.add (i * 2)).off + 1, none⟩ = some (.int .u8 (x.2 : Int))) ∧ x.1 < 256 ∧ x.2 < 256 := by
      intro i hi
      obtain ⟨cs', h1, h2⟩ := hx i (by omega)
      obtain ⟨_, hlen, hcell⟩ := World.cells?_some h1
      obtain ⟨y0, y1, n, _, _, g0, g1⟩ := trod_struct2 he h2
      match cs', hlen with
      | [c0, c1], _ =>
        rw [o0, t0, cq] at g0
        rw [o1, t1, cq] at g1
        obtain ⟨z0, e0, _, w0⟩ := DataW.trod_int hq g0
        obtain ⟨z1, e1, _, w1⟩ := DataW.trod_int hq g1
        simp at e0 e1
        subst e0 e1
        obtain ⟨x0, rfl, l0⟩ := wf_u8 w0
        obtain ⟨x1, rfl, l1⟩ := wf_u8 w1
        have d0 := hcell 0 (by omega)
        have d1 := hcell 1 (by omega)
        refine ⟨(x0, x1), ⟨?_, ?_⟩, l0, l1⟩
        · simpa [Addr.add] using d0
        · simpa [Addr.add] using d1
    obtain ⟨V, hV⟩ := Deep.choose_lt each
    have hn : ((List.range len).map V).length = len := by simp
    refine ⟨some a, cap, (List.range len).map V, by rw [hn], ?_, ?_⟩
    · rw [hn]
      refine .inr ⟨a, cap, by rw [hn], by rw [hn]; exact hl, fun j x hj => ?_⟩
      rw [List.getElem?_map] at hj
      cases hr : (List.range len)[j]? with
      | none => rw [hr] at hj; cases hj
      | some i =>
        rw [hr] at hj
        cases hj
        have hlt : j < len := by have := (List.getElem?_eq_some_iff.1 hr).1; simpa using this
        rw [List.getElem?_range hlt] at hr
        cases hr
        exact (hV j hlt).1
    · intro x hx
      obtain ⟨i, hi, rfl⟩ := List.mem_map.1 hx
      exact (hV i (List.mem_range.1 hi)).2
end
set_option maxRecDepth 100000 in
theorem vclockcausal_lifted (os : Os) (started : os.Started) (H : Type) (enc : TypeId × Value → H) :
    ReturnsInHanded {} Try.checked os 8 .any (Rows.vclockCausalSpec.pre6 enc Try.prog Try.f8 Rows.vclockCausalRow.domain false) (Rows.vclockCausalSpec.post enc Try.prog Try.f8 false true false false) := by
  refine returnsInHanded_of_change_sized (C := Try.checked) Try.own started (by kernel_rfl) Try.func8
    (ChangeSpec.witness6 (enc := enc) (C := Try.checked) false ⟨#[], #[.slice none 0 0], []⟩ 8 (by kernel_rfl) (by kernel_rfl) (by kernel_rfl) (by kernel_rfl)) ?_
  intro W base args ds gs before hval0 hW hcnd hsz0 _
  clear hsz0
  have hval : ∀ (j : Nat) t v, Try.f8.params[j]? = some t → args[j]? = some v → Value.okWide Try.prog W .any base t v := hval0
  have hW' := hW
  obtain ⟨p, q, hA0, hV, rfl, hfz, hnd⟩ := hW
  have hA : DataW.TrodAll enc Try.prog W 0 (fun _ => true) true Try.f8.params.toList args.toList ds p := hA0
  rw [Try.params8] at hA hval
  obtain ⟨v0, d0, rfl, rfl, h0⟩ := trodAll_one hA
  obtain ⟨rfl, rfl⟩ := trodVars_none hV
  obtain ⟨A0, c0, es, rfl, hx0, hb0⟩ := open_acts Try.underlying49 Try.underlying53 (by kernel_rfl) rfl rfl rfl rfl Try.underlying5 (by kernel_rfl) (hval 0 49 v0 rfl rfl) h0
  exact (vclockcausal_walk A0 c0 es W hx0 hb0).mono fun e W' hok => law_post Try.laidOut rfl Try.underlying4 (by kernel_rfl) rfl hW' rfl hok

theorem vclockcausal_holds : Rows.VclockCausalSaid :=
  OpenClaim.holds_of_wide 8 Try.f8 rfl rfl rfl rfl rfl rfl rfl ⟨rfl, rfl, rfl, rfl, rfl⟩ rfl rfl rfl rfl rfl (by kernel_rfl) Try.func8 (by kernel_rfl)
    (of_decide_eq_true (by kernel_rfl)) (by unfold Func.isWrapper; first | (rw [if_pos (by decide +kernel)]; kernel_rfl) | (rw [if_neg (by decide +kernel)]; exact ⟨rfl, rfl⟩))
    (fun os started H enc _ => vclockcausal_lifted os started H enc)
end Go.Proofs.Ytgfnhkipoicmiaa
