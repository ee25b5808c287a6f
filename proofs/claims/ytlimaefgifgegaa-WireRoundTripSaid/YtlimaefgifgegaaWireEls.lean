/- The readers' contracts: elements of api.Value. -/
import Derived.Test.YtlimaefgifgegaaWireValW
namespace Go.Proofs.Ytlimaefgifgegaa
open Go.RowKit

/-- m things read one after the other. -/
def pList {α : Type} (p : List Nat → Nat → Option (α × Nat)) : Nat → List Nat → Nat → Option (List α × Nat)
  | 0, _, k => some ([], k)
  | m + 1, xs, k => match p xs k with
    | none => none
    | some (x, k1) => (pList p m xs k1).map fun r => (x :: r.1, r.2)
theorem pList_none {α : Type} {p : List Nat → Nat → Option (α × Nat)} {m : Nat} {xs : List Nat} {k : Nat} (h : p xs k = none) : pList p (m + 1) xs k = none := by
  unfold pList
  rw [h]
theorem pList_some {α : Type} {p : List Nat → Nat → Option (α × Nat)} {m : Nat} {xs : List Nat} {k k1 : Nat} {x : α} (h : p xs k = some (x, k1)) : pList p (m + 1) xs k = (pList p m xs k1).map fun r => (x :: r.1, r.2) := by
  conv => lhs; unfold pList
  rw [h]
theorem info_val : (Try.prog.info? 56).map (fun i => (i.zero, i.size, i.bytes)) = some (some (.agg #[.int .i64 0, .int .i64 0, .string ⟨#[]⟩]), 3, 32) := by kernel_rfl
def cells3 (x : Vl) : List Value := [.int .i64 x.1, .int .i64 x.2.1, .string x.2.2]
def flat3 (l : List Vl) : List Value := l.flatMap cells3
theorem flat3_len (l : List Vl) : (flat3 l).length = l.length * 3 := by
  induction l with
  | nil => rfl
  | cons x l ih => unfold flat3 at *; rw [List.flatMap_cons, List.length_append, ih]; simp [cells3]; omega
theorem flat3_snoc (l : List Vl) (x : Vl) : flat3 (l ++ [x]) = flat3 l ++ cells3 x := by simp [flat3]
def VRow (B : Nat) (w : World) (v : Value) (l : List Vl) : Prop := w.ownsRow B 56 3 v l.length (flat3 l)
def RawL (w : World) (g : Nat) (A : Option Addr) (n c : Nat) (xs : List Nat) (o : Option (List Vl × Nat)) (e : Ending) (w' : World) : Prop :=
  ∃ v k' fl, e = .returned v ∧ Rdr w' g A n c xs k' fl ∧ Only g w w' ∧ (match o with | some (l, k1) => VRow w.heap.size w' v l ∧ k' = k1 ∧ fl = false | none => fl = true)
section
variable {w : World} {g n c k : Nat} {A : Option Addr} {xs : List Nat} {fl : Bool}
theorem VRow.only {B : Nat} {w w' : World} {v : Value} {l : List Vl} (h : VRow B w v l) (ho : Only g w w') (hg : g < B) : VRow B w' v l := by
  refine World.ownsRow.kept (row := some g) h ⟨ho.os, ho.tape, ho.output, ho.size, fun k hk hn => ho.block k hk (fun e => hn (by rw [e]))⟩ ?_
  rcases h.2 with ⟨rfl, _⟩ | ⟨g', cap, cur, rfl, hb, _⟩
  · exact .inl rfl
  · right
    intro e
    simp only [Value.ownBlock, Option.some.injEq] at e
    omega
theorem Only.grown {B : Nat} {a b : World} {row : Option Nat} (h : Only g w a) (hg : a.grownBy b row) (hw : w.heap.size ≤ B) (hrow : ∀ k, row = some k → B ≤ k) : Only g w b :=
  ⟨hg.os.trans h.os, hg.tape.trans h.tape, hg.output.trans h.output, Nat.le_trans h.size hg.size, fun i hi hn => (hg.block i (Nat.lt_of_lt_of_le hi h.size) (fun e => by have := hrow i e.symm; omega)).trans (h.block i hi hn)⟩
theorem Rdr.grown {B : Nat} {a b : World} {row : Option Nat} (h : Rdr a g A n c xs k fl) (hold : xs = [] ∨ ∀ ad, A = some ad → ad.block < B) (hgB : g < B) (hg : a.grownBy b row) (hrow : ∀ k, row = some k → B ≤ k) : Rdr b g A n c xs k fl := by
  refine ⟨(hg.block g h.lt (fun e => by have := hrow g e.symm; omega)).trans h.blk, h.len, h.cap, h.off, ?_, h.byt, h.room⟩
  rcases h.data with h0 | ⟨ad, hA, h1, h2, h3⟩
  · exact .inl h0
  · rcases hold with h0 | hold
    · exact .inl h0
    · have hlt := hold ad hA
      refine .inr ⟨ad, hA, h1, Nat.lt_of_lt_of_le h2 hg.size, fun j b' hj => ?_⟩
      rw [World.cell?_of_block (w := a) (by rw [addr_add_block]; exact hg.block _ h2 (fun e => by have := hrow _ e.symm; omega))]
      exact h3 j b' hj
theorem VRow.blk {B : Nat} {w : World} {v : Value} {l : List Vl} (h : VRow B w v l) : ∀ k, v.ownBlock = some k → B ≤ k := fun k e => (World.ownsRow.lt h k e).1
theorem cells3_new (W : World) (x0 x1 : Int) (x2 : ByteArray) (t g' : Nat) (hg : g' = W.heap.size) : ∀ j u, (cells3 (x0, x1, x2))[j]? = some u → (W.alloc (.cells #[.int .i64 x0, .int .i64 x1, .string x2] t)).cell? ((⟨g', 0, none⟩ : Addr).add j) = some u := by
  subst hg
  intro j u hj
  have e : (⟨W.heap.size, 0, none⟩ : Addr).add j = ⟨W.heap.size, j, none⟩ := by unfold Addr.add; split <;> simp_all
  rw [e, cell_of_row _ W.heap.size j _ _ _ (heap_alloc_new W _)]
  simpa [cells3] using hj
set_option maxHeartbeats 1000000 in
theorem elems_val_0 (h : Rdr w g A n c xs k fl) :
    Calls Try.prog 61 #[.pointer (some ⟨g, 0, none⟩), .int .i64 0, .func (.func 62) #[.pointer (some ⟨g, 0, none⟩)] #[]] w
      (RPost w g A n c xs (.slice none 0 0, k, fl)) := by
  have H := Lib.hid h
  clear h
  go_enter Try.func61, Try.ntmps61
  go_wp2
  go_loopw [7, 10] (fun o i wr => o = .slice none 0 0 ∧ i = .int .i64 0 ∧ wr = w) (fun _ _ _ => 0)
  case atStart => exact ⟨rfl, rfl, rfl⟩
  case round =>
    obtain ⟨rfl, rfl, rfl⟩ := hrel
    go_wp2
    go_ret
    exact ⟨rfl, H.out, Only.refl _ _⟩
set_option maxHeartbeats 2000000 in
theorem elems_val (m : Nat) (h : Rdr w g A n c xs k false) (hm : m ≤ 1000000) :
    Calls Try.prog 61 #[.pointer (some ⟨g, 0, none⟩), .int .i64 (m : Int), .func (.func 62) #[.pointer (some ⟨g, 0, none⟩)] #[]] w
      (RawL w g A n c xs (pList pValue m xs k)) := by
  have hg := h.lt
  have H := Lib.hid h
  clear h
  obtain ⟨i0, hi, hz0, hz1, hz2⟩ := info_parts info_val
  obtain ⟨R, hR⟩ : ∃ R, R = pList pValue m xs k := ⟨_, rfl⟩
  rw [← hR]
  have HR := Lib.hid hR
  clear hR
  go_enter Try.func61, Try.ntmps61
  go_wp2
  go_loopw [7, 10] (fun o i wr => ∃ (j : Nat) (l : List Vl) (k' : Nat), j ≤ m ∧ i = .int .i64 j ∧ l.length = j ∧ VRow w.heap.size wr o l ∧ Rdr wr g A n c xs k' false ∧ Only g w wr ∧ R = (pList pValue (m - j) xs k').map fun r => (l ++ r.1, r.2)) (fun _ i _ => m - (intOf i).toNat)
  case atStart => exact ⟨0, [], k, Nat.zero_le _, rfl, rfl, World.ownsRow_nil _ _ _ _, H.out, Only.refl _ _, by rw [HR.out, Nat.sub_zero]; cases pList pValue m xs k <;> rfl⟩
  case round =>
    rename_i o _
    obtain ⟨j, l, k', hj, rfl, hlj, hrow, hrd, ho, hR⟩ := hrel
    have Hrow := Lib.hid hrow; have Hrd := Lib.hid hrd; have Ho := Lib.hid ho; have HRR := Lib.hid hR; have Hlj := Lib.hid hlj
    clear hrow hrd ho hR hlj
    by_cases hlt : j < m
    · have hms : m - j = (m - (j + 1)) + 1 := by omega
      cases hp : pValue xs k' with
      | none =>
        have hnone : R = none := by rw [HRR.out, hms, pList_none hp]; rfl
        have hv := value_any Hrd.out
        rw [hp, out_none rfl] at hv
        have Hn := Lib.hid hnone
        clear hnone hp
        go_wp2_with fail
        refine hv.mono ?_
        rintro e w1 ⟨rfl, hR1, ho1⟩
        replace hR1 : Rdr w1 g A n c xs k' true := hR1
        have hb := (Below.refl w1.heap.size w1).alloc (Nat.le_refl _) (.cells #[.int .i64 0, .int .i64 0, .string (strOf [])] 56)
        have hR2 := hR1.below hb
        have d2 := hR2.cell 2
        have HR1 := Lib.hid hR2; have Ho1 := Lib.hid ((Ho.out.trans ho1).below hb)
        clear hR1 ho1 hR2 hb hv
        unfold vval vagg
        go_wp2
        go_ret
        exact ⟨_, _, _, rfl, HR1.out, Ho1.out, by rw [Hn.out]⟩
      | some p =>
        obtain ⟨x, k1⟩ := p
        have hnext : R = (pList pValue (m - (j + 1)) xs k1).map fun r => ((l ++ [x]) ++ r.1, r.2) := by
          rw [HRR.out, hms, pList_some hp, Option.map_map]
          congr 1
          funext r
          simp
        have hv := value_any Hrd.out
        rw [hp, out_some rfl] at hv
        obtain ⟨x0, x1, x2⟩ := x
        have Hn := Lib.hid hnext
        clear hnext hp
        go_wp2_with fail
        refine hv.mono ?_
        rintro e w1 ⟨rfl, hR1, ho1⟩
        replace hR1 : Rdr w1 g A n c xs k1 false := hR1
        have hrow1 := Hrow.out.only ho1 hg
        have hb := (Below.refl w1.heap.size w1).alloc (Nat.le_refl _) (.cells #[.int .i64 x0, .int .i64 x1, .string x2] 56)
        have hR2 := hR1.below hb
        have d2 := hR2.cell 2
        have hB1 : w.heap.size ≤ w1.heap.size := (Ho.out.trans ho1).size
        have HR1 := Lib.hid hR1; have Ho1 := Lib.hid (Ho.out.trans ho1); have Hrow1 := Lib.hid hrow1; have HB1 := Lib.hid hB1
        clear hR1 ho1 hR2 hb hv hrow1 hB1
        unfold vval vagg
        have hl2 : (flat3 l).length = l.length * 3 := flat3_len l
        go_wp2_with (at_builtin; refine wpList_append_own _ rfl _ _ 43 rfl w.heap.size 56 i0 _ 3 32 (by kernel_rfl) hi hz0 hz1 hz2 rfl (by decide) _ l.length (flat3 l) rfl ((Hrow1.out.alloc _).alloc _) ⟨w1.heap.size + 1, 0, none⟩ 1 1 (cells3 (x0, x1, x2)) rfl rfl (cells3_new _ _ _ _ _ _ (by simp)) (by intro u hu; simp [cells3] at hu; rcases hu with rfl | rfl | rfl <;> rfl) (by have := Hlj.out; unfold maxLen; omega) (by have := Hlj.out; omega) (by have := HB1.out; simp; omega) ?_; intro v' w2 hown2 hgr _)
        have hlt2 : w.heap.size ≤ ((w1.alloc (.cells #[.int .i64 x0, .int .i64 x1, .string x2] 56)).alloc (.cells #[.int .i64 x0, .int .i64 x1, .string x2] 56)).heap.size := by have := HB1.out; simp; omega
        have hA2 := ((Below.refl w1.heap.size w1).alloc (Nat.le_refl _) (.cells #[.int .i64 x0, .int .i64 x1, .string x2] 56)).alloc (by simp) (.cells #[.int .i64 x0, .int .i64 x1, .string x2] 56)
        have HR2 := Lib.hid ((HR1.out.below hA2).grown H.out.old hg hgr Hrow1.out.blk)
        have HO2 := Lib.hid ((Ho1.out.below hA2).grown hgr (Nat.le_refl _) Hrow1.out.blk)
        have HV2 : Hid (VRow w.heap.size w2 v' (l ++ [(x0, x1, x2)])) := by
          show w2.ownsRow _ _ _ _ _ _
          rw [flat3_snoc, List.length_append, List.length_singleton]
          exact hown2
        clear hgr hown2 hlt2 hA2
        go_roundw
        case rel => exact ⟨j + 1, l ++ [(x0, x1, x2)], k1, by omega, by go_num, by rw [List.length_append, Hlj.out]; rfl, HV2.out, HR2.out, HO2.out, Hn.out⟩
        case measure => simp [intOf]; omega
    · obtain rfl : j = m := by omega
      go_wp2
      go_ret
      refine ⟨_, _, _, rfl, Hrd.out, Ho.out, ?_⟩
      have e : R = some (l, k') := by rw [HRR.out, Nat.sub_self]; simp [pList]
      rw [e]
      exact ⟨Hrow.out, rfl, rfl⟩
/-- values(m), the reader's method. -/
theorem values_m (m : Nat) (h : Rdr w g A n c xs k false) (hm : m ≤ 1000000) :
    Calls Try.prog 46 #[.pointer (some ⟨g, 0, none⟩), .int .i64 (m : Int)] w (RawL w g A n c xs (pList pValue m xs k)) := by
  have H := Lib.hid h
  clear h
  go_enter Try.func46, Try.ntmps46
  go_wp2_with fail
  refine (elems_val m H.out hm).mono ?_
  rintro e w1 ⟨v, k', fl, rfl, hR, ho, hm⟩
  have HR := Lib.hid hR; have Ho := Lib.hid ho; have Hm := Lib.hid hm
  clear hR ho hm
  go_wp2
  go_ret
  exact ⟨v, k', fl, rfl, HR.out, Ho.out, Hm.out⟩
theorem values_0 (h : Rdr w g A n c xs k fl) :
    Calls Try.prog 46 #[.pointer (some ⟨g, 0, none⟩), .int .i64 0] w (RPost w g A n c xs (.slice none 0 0, k, fl)) := by
  have H := Lib.hid h
  clear h
  go_enter Try.func46, Try.ntmps46
  go_wp2_with fail
  refine (elems_val_0 H.out).mono ?_
  rintro e w1 ⟨rfl, hR, ho⟩
  have HR := Lib.hid hR; have Ho := Lib.hid ho
  clear hR ho
  go_wp2
  go_ret
  exact ⟨rfl, HR.out, Ho.out⟩
end
end Go.Proofs.Ytlimaefgifgegaa
