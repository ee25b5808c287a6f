/- Layer 10: opening what the laws are handed: protocols of the reference. -/
import Derived.Test.YtekpefcggikcbaaGreatDoorMSyCt
import Derived.Test.YtekpefcggikcbaaGreatDoorMLaw
import Derived.Test.YtekpefcggikcbaaGreatDoorCards
import Derived.ProofKit
import Derived.Deep.Slices
import Derived.Deep.Strs
import Derived.Lib.SmallJoins
import Derived.Test.YtekpefcggikcbaaGreatDoorMLexTo
import Derived.JoinedCond
import Derived.Deep.DeepHandedRow
namespace Go.Proofs.YtekpefcggikcbaaGreatDoor
/- Layer 10: opening what the laws are handed: protocols of the reference. -/
open Go.ChangeShapes Go.WideShapes Go.ChangeAt Go.RowKit Go.Joins

theorem flatGet {α β : Type} {f : α → List β} {z : Nat} (hf : ∀ x, (f x).length = z) : ∀ (l : List α) (j i : Nat) (x : α), l[j]? = some x → i < z → (l.flatMap f)[j * z + i]? = (f x)[i]?
 | [], j, i, x, h, _ => by simp at h
 | a :: r, 0, i, x, h, hi => by
  simp at h; subst h
  rw [List.flatMap_cons, List.getElem?_append_left (by rw [hf]; omega)]
  congr 1; omega
 | a :: r, j + 1, i, x, h, hi => by
  rw [List.flatMap_cons, List.getElem?_append_right (by rw [hf, Nat.add_mul]; omega), hf, show (j + 1) * z + i - z = j * z + i by rw [Nat.add_mul]; omega]
  exact flatGet hf r j i x (by simpa using h) hi
theorem flatLen {α β : Type} {f : α → List β} {z : Nat} (hf : ∀ x, (f x).length = z) : ∀ (l : List α), (l.flatMap f).length = l.length * z
 | [] => by simp
 | a :: r => by rw [List.flatMap_cons, List.length_append, hf, flatLen hf r, List.length_cons, Nat.add_mul]; omega
theorem get_part {cs : List Value} {o k j : Nat} {u : Value} (h : ((cs.drop o).take k)[j]? = some u) : cs[o + j]? = some u := by
 have hj : j < k := by
  have := (List.getElem?_eq_some_iff.1 h).1
  rw [List.length_take] at this
  omega
 rwa [List.getElem?_take, if_pos hj, List.getElem?_drop] at h
theorem addrN (b o j : Nat) : (⟨b, o, none⟩ : Addr).add j = ⟨b, o + j, none⟩ := by unfold Addr.add; split <;> simp_all
theorem cell_spot {w : World} {a : Addr} {v : Value} (h : w.cell? a = some v) : a.spot = none := by
 unfold World.cell? at h
 split at h
 ·split at h
  ·cases h
  ·rename_i hs; simpa using hs
 ·cases h
section
variable {H : Type} {enc : TypeId × Value → H} {W : World}
theorem bulk_one (d : DataW H) : 1 ≤ Rows.uptoBulk d := by
 cases d with
 | lit l => cases l <;> simp [Rows.uptoBulk]
 | nil => simp [Rows.uptoBulk]
 | ptr d => simp [Rows.uptoBulk]
 | slice elems spare => simp [Rows.uptoBulk]
 | agg parts => simp [Rows.uptoBulk]
 | iface t d => simp [Rows.uptoBulk]
 | map entries => simp [Rows.uptoBulk]
 | held h => simp [Rows.uptoBulk]
theorem bulk_mem {d : DataW H} {l : List (DataW H)} (h : d ∈ l) : Rows.uptoBulk d ≤ Rows.uptoBulkAll l := by
 induction l with
 | nil => cases h
 | cons x r ih =>
  simp only [Rows.uptoBulkAll]
  cases List.mem_cons.1 h with
  | inl e => subst e; omega
  | inr e => have := ih e; omega
theorem bulk_len (l : List (DataW H)) : l.length ≤ Rows.uptoBulkAll l := by
 induction l with
 | nil => simp [Rows.uptoBulkAll]
 | cons x r ih => have := bulk_one x; simp only [Rows.uptoBulkAll, List.length_cons]; omega
/-- A row of cells that was read, opened by what its elements are. -/
theorem open_row {α : Type} (dflt : α) {f : α → List D} {z : Nat} {t e : TypeId} {n : Nat} {v : Value} {y : DataW H × List MemPlace} (ht : Tryz.prog.underlying t = some (.slice e)) (hc : Tryz.prog.cellsOf e = z) (hz : 0 < z) (hf : ∀ x, (f x).length = z) (Q : α → DataW H → Prop)
  (h : DataW.trod enc Tryz.prog W 0 (fun _ => true) true n t [v] = some y)
  (each : ∀ (k : Nat), k < n → ∀ (cs : List Value) (x : DataW H × List MemPlace), DataW.trod enc Tryz.prog W 0 (fun _ => true) true k e cs = some x → ∃ a : α, Q a x.1 ∧ ∀ (i : Nat) (u : Value) (d : D), cs[i]? = some u → (f a)[i]? = some d → Lir W (fun k => k < W.heap.size) u d) :
  ∃ (l : List α) (ys : List (DataW H)), Lir W (fun k => k < W.heap.size) v (.s z (l.flatMap f)) ∧ Rows.uptoBulkAll ys + 1 ≤ Rows.uptoBulk y.1 ∧ ys.length = l.length ∧ ∀ (i : Nat) (a : α) (d : DataW H), l[i]? = some a → ys[i]? = some d → Q a d := by
 rcases DataW.trod_slice ht h with ⟨hcs, rfl⟩ | ⟨a, len, cap, elems, rest, k, hk, hcs, rfl, -, hl, -, hlen, hel, -, -⟩
 ·simp only [List.cons.injEq, and_true] at hcs
  subst hcs
  exact ⟨[], [], .nil z, by simp [Rows.uptoBulk, Rows.uptoBulkAll], rfl, fun i a d hi => by simp at hi⟩
 ·simp only [List.cons.injEq, and_true] at hcs
  subst hcs
  have key : ∀ i, i < len → ∃ x : α × List Value, ∃ y, elems[i]? = some y ∧ W.cells? 0 (a.add (i * z)) z = some x.2 ∧ Q x.1 y.1 ∧ ∀ (j : Nat) (u : Value) (d : D), x.2[j]? = some u → (f x.1)[j]? = some d → Lir W (fun k => k < W.heap.size) u d := by
   intro i hi
   have h1 := hel i hi
   rw [List.getElem?_eq_getElem (by omega), hc] at h1
   obtain ⟨cs, h2, h3⟩ := Option.bind_eq_some_iff.1 h1
   obtain ⟨b, hb1, hb2⟩ := each k (by omega) cs _ h3
   exact ⟨(b, cs), _, List.getElem?_eq_getElem (by omega), h2, hb1, hb2⟩
  haveI : Inhabited α := ⟨dflt⟩
  obtain ⟨V, hV⟩ := Deep.choose_lt key
  have hbulk : Rows.uptoBulkAll (elems.map (·.1)) + 1 ≤ Rows.uptoBulk (DataW.slice (elems.map (·.1)) (rest.map (·.1))) := by
   simp only [Rows.uptoBulk]; omega
  have hll : ((List.range len).map fun i => (V i).1).length = len := by simp
  have hget : ∀ (i : Nat) (b : α), ((List.range len).map fun i => (V i).1)[i]? = some b → i < len ∧ b = (V i).1 := by
   intro i b hb
   have hi : i < len := by have := (List.getElem?_eq_some_iff.1 hb).1; simpa using this
   rw [List.getElem?_map, List.getElem?_range hi] at hb
   simp at hb
   exact ⟨hi, hb.symm⟩
  refine ⟨(List.range len).map fun i => (V i).1, elems.map (·.1), ?_, hbulk, by simp [hlen], ?_⟩
  ·rcases Nat.eq_zero_or_pos len with h0 | hpos
   ·subst h0
    exact .e0 a cap z
   ·have hc0 : ∀ i, i < len → (V i).2.length = z ∧ ∀ j, j < z → ∃ u, (V i).2[j]? = some u ∧ W.cell? ((a.add (i * z)).add j) = some u := by
     intro i hi
     obtain ⟨y, -, h2, -⟩ := hV i hi
     obtain ⟨_, hl2, hcell⟩ := World.cells?_some h2
     refine ⟨hl2, fun j hj => ?_⟩
     exact ⟨_, List.getElem?_eq_getElem (by omega), (hcell j (by omega)).trans (List.getElem?_eq_getElem (by omega))⟩
    have hspot : a.spot = none := by
     obtain ⟨-, h2⟩ := hc0 0 hpos
     obtain ⟨u, -, h3⟩ := h2 0 hz
     have := cell_spot h3
     obtain ⟨b, o, sp⟩ := a
     cases sp with
     | none => rfl
     | some s => simp [Addr.add] at this
    obtain ⟨b, o, sp⟩ := a
    simp only at hspot
    subst hspot
    have hadd : ∀ i j, ((⟨b, o, none⟩ : Addr).add (i * z)).add j = ⟨b, o + (i * z + j), none⟩ := by
     intro i j
     rw [addrN, addrN, Nat.add_assoc]
    have hblt : b < W.heap.size := by
     obtain ⟨-, h2⟩ := hc0 0 hpos
     obtain ⟨u, -, h3⟩ := h2 0 hz
     rw [hadd] at h3
     exact World.block_lt_of_cell? _ _ h3
    have hlenU : ∀ i ∈ List.range len, (V i).2.length = z := fun i hi => (hc0 i (by simpa using hi)).1
    have hflat : ∀ (L : List Nat), (∀ i ∈ L, (V i).2.length = z) → (L.flatMap fun i => (V i).2).length = L.length * z := by
     intro L
     induction L with
     | nil => intro _; simp
     | cons c r ih =>
      intro hh
      rw [List.flatMap_cons, List.length_append, hh c (by simp), ih fun i hi => hh i (by simp [hi]), List.length_cons, Nat.add_mul]; omega
    let g : Nat → List Value := fun i => if i < len then (V i).2 else List.replicate z undef
    have hg : ∀ i, (g i).length = z := by
     intro i
     show (if i < len then (V i).2 else List.replicate z undef).length = z
     split
     ·rename_i hi; exact (hc0 i hi).1
     ·simp
    have split_idx : ∀ idx, idx < len * z → ∃ i j, idx = i * z + j ∧ i < len ∧ j < z := by
     intro idx hidx
     refine ⟨idx / z, idx % z, by rw [Nat.mul_comm]; exact (Nat.div_add_mod idx z).symm, ?_, Nat.mod_lt _ hz⟩
     exact Nat.div_lt_of_lt_mul (by rw [Nat.mul_comm]; exact hidx)
    have hU : ∀ i j, i < len → j < z → ((List.range len).flatMap g)[i * z + j]? = (V i).2[j]? := by
     intro i j hi hj
     rw [flatGet hg (List.range len) i j i (List.getElem?_range hi) hj]
     show (if i < len then (V i).2 else List.replicate z undef)[j]? = _
     rw [if_pos hi]
    have hF : ∀ i j, i < len → j < z → (((List.range len).map fun i => (V i).1).flatMap f)[i * z + j]? = (f (V i).1)[j]? := by
     intro i j hi hj
     refine flat_get hf _ i j _ ?_ hj
     rw [List.getElem?_map, List.getElem?_range hi]; rfl
    have hUL : ((List.range len).flatMap g).length = len * z := by rw [flatLen hg]; simp
    have hFL : (((List.range len).map fun i => (V i).1).flatMap f).length = len * z := by rw [flat_len hf]; simp
    refine .sl b o len cap z ((List.range len).flatMap g) _ hblt hblt (by rw [hUL, hFL]) hFL.symm hl ?_ ?_
    ·intro idx u hu
     have hidx : idx < len * z := by rw [← hUL]; exact (List.getElem?_eq_some_iff.1 hu).1
     obtain ⟨i, j, rfl, hi, hj⟩ := split_idx idx hidx
     rw [hU i j hi hj] at hu
     obtain ⟨u', h4, h5⟩ := (hc0 i hi).2 j hj
     rw [hu] at h4
     cases h4
     rwa [hadd] at h5
    ·intro idx u d hu hd
     have hidx : idx < len * z := by rw [← hUL]; exact (List.getElem?_eq_some_iff.1 hu).1
     obtain ⟨i, j, rfl, hi, hj⟩ := split_idx idx hidx
     rw [hU i j hi hj] at hu
     rw [hF i j hi hj] at hd
     obtain ⟨y, -, -, -, h4⟩ := hV i hi
     exact h4 j u d hu hd
  ·intro i b d hb hd
   obtain ⟨hi, rfl⟩ := hget i b hb
   obtain ⟨y, h1, -, h2, -⟩ := hV i hi
   rw [List.getElem?_map, h1] at hd
   cases hd
   exact h2
theorem cl_s : Tryz.prog.cellsOf 9 = 1 := by kernel_rfl
theorem cl_i : Tryz.prog.cellsOf 3 = 1 := by kernel_rfl
theorem cl_ss : Tryz.prog.cellsOf 45 = 1 := by kernel_rfl
theorem cl_fs : Tryz.prog.cellsOf 71 = 1 := by kernel_rfl
theorem cl_as : Tryz.prog.cellsOf 94 = 1 := by kernel_rfl
theorem cl_ms : Tryz.prog.cellsOf 51 = 1 := by kernel_rfl
theorem cl_is : Tryz.prog.cellsOf 52 = 1 := by kernel_rfl
theorem cl_bs : Tryz.prog.cellsOf 142 = 1 := by kernel_rfl
theorem cl_so : Tryz.prog.cellsOf 156 = 3 := by kernel_rfl
theorem cl_te : Tryz.prog.cellsOf 101 = 4 := by kernel_rfl
theorem cl_me : Tryz.prog.cellsOf 96 = 3 := by kernel_rfl
theorem cl_it : Tryz.prog.cellsOf 144 = 7 := by kernel_rfl
theorem cl_pr : Tryz.prog.cellsOf 54 = 4 := by kernel_rfl
/-- A field of so many cells. -/
theorem fld {t k n o : Nat} {cs : List Value} {y : Option (DataW H × List MemPlace)} (hc : Tryz.prog.cellsOf t = k) (h : DataW.trod enc Tryz.prog W 0 (fun _ => true) true n t ((cs.drop o).take (Tryz.prog.cellsOf t)) = y) : DataW.trod enc Tryz.prog W 0 (fun _ => true) true n t ((cs.drop o).take k) = y := by rw [hc] at h; exact h
theorem str_part {cs : List Value} {o n : Nat} {y : DataW H × List MemPlace} (h : DataW.trod enc Tryz.prog W 0 (fun _ => true) true n 9 ((cs.drop o).take 1) = some y) : ∃ x : Bs, cs[o]? = some (.string (ofL x)) := by
 obtain ⟨s, e0, -, -⟩ := DataW.trod_string Tryz.underlying9 h
 exact ⟨s.data.toList, by rw [← ofL_of s]; exact get_part (j := 0) (k := 1) (by rw [e0]; rfl)⟩
theorem int_part {cs : List Value} {o n : Nat} {y : DataW H × List MemPlace} (h : DataW.trod enc Tryz.prog W 0 (fun _ => true) true n 3 ((cs.drop o).take 1) = some y) : ∃ x : Int, cs[o]? = some (.int .i64 x) := by
 obtain ⟨s, e0, -, -⟩ := DataW.trod_int Tryz.underlying3 h
 exact ⟨s, get_part (j := 0) (k := 1) (by rw [e0]; rfl)⟩
theorem one_part {cs : List Value} {o : Nat} (h : o < cs.length) : ∃ u, (cs.drop o).take 1 = [u] ∧ cs[o]? = some u :=
 ⟨cs[o], by rw [List.drop_eq_getElem_cons h]; rfl, List.getElem?_eq_getElem h⟩
theorem open_strs2 {n : Nat} {v : Value} {y : DataW H × List MemPlace} (h : DataW.trod enc Tryz.prog W 0 (fun _ => true) true n 45 [v] = some y) : ∃ l : List Bs, Lir W (fun k => k < W.heap.size) v (dL l) ∧ l.length + 1 ≤ Rows.uptoBulk y.1 := by
 obtain ⟨l, ys, h1, h2, h3, -⟩ := open_row (α := Bs) [] (f := fun x => [dS x]) (z := 1) Tryz.underlying45 (by kernel_rfl) (by decide) (fun _ => rfl) (fun _ _ => True) h (fun k hk cs x hx => by
  obtain ⟨s, e0, -, -⟩ := DataW.trod_string Tryz.underlying9 hx
  refine ⟨s.data.toList, trivial, fun i u d hu hd => ?_⟩
  subst e0
  match i, hu, hd with
  | 0, hu, hd =>
   simp only [List.getElem?_cons_zero, Option.some.injEq] at hu hd
   subst hu hd
   rw [show Value.string s = vS s.data.toList by unfold vS; rw [← ofL_of s]]
   exact .c _ rfl)
 exact ⟨l, h1, by have := bulk_len ys; omega⟩
/-- The cells of one list of data. -/
theorem parts_lir {cs : List Value} {ds : List D} (h : ∀ (i : Nat) (d : D), ds[i]? = some d → ∃ u, cs[i]? = some u ∧ Lir W (fun k => k < W.heap.size) u d) : ∀ (i : Nat) (u : Value) (d : D), cs[i]? = some u → ds[i]? = some d → Lir W (fun k => k < W.heap.size) u d := by
 intro i u d hu hd
 obtain ⟨u', h1, h2⟩ := h i d hd
 rw [hu] at h1
 cases h1
 exact h2
theorem lir_s {cs : List Value} {o : Nat} {x : Bs} (h : cs[o]? = some (.string (ofL x))) : ∃ u, cs[o]? = some u ∧ Lir W (fun k => k < W.heap.size) u (dS x) := ⟨_, h, .c _ rfl⟩
theorem lir_i {cs : List Value} {o : Nat} {x : Int} (h : cs[o]? = some (.int .i64 x)) : ∃ u, cs[o]? = some u ∧ Lir W (fun k => k < W.heap.size) u (dI x) := ⟨_, h, .c _ rfl⟩
theorem drop2 {α : Type} (l : List α) (a b c k : Nat) (h : b + c ≤ k) : ((((l.drop a).take k).drop b).take c) = ((l.drop (a + b)).take c) := by
 rw [List.drop_take, List.drop_drop, List.take_take, Nat.min_eq_left (by omega)]
theorem open_flds2 {n : Nat} {v : Value} {y : DataW H × List MemPlace} (h : DataW.trod enc Tryz.prog W 0 (fun _ => true) true n 71 [v] = some y) : ∃ l : List Fd, Lir W (fun k => k < W.heap.size) v (.s 4 (l.flatMap dF)) ∧ l.length + 1 ≤ Rows.uptoBulk y.1 := by
 obtain ⟨l, ys, h1, h2, h3, -⟩ := open_row (α := Fd) ⟨[], 0, 0, 0⟩ (f := dF) (z := 4) Tryz.underlying71 (by kernel_rfl) (by decide) dF_len (fun _ _ => True) h (fun k hk cs x hx => by
  obtain ⟨xs, n2, -, -, hl, hlen, hf⟩ := DataW.trod_struct Tryz.underlying158 hx
  match xs, hlen with
  | [y0, y1], _ =>
   obtain ⟨a, ha⟩ := str_part (o := 0) (y := y0) (fld cl_s (hf 0 _ rfl))
   obtain ⟨xs2, n3, -, -, hl2, hlen2, hf2⟩ := DataW.trod_struct (x := y1) Tryz.underlying156 (fld cl_so (hf 1 _ rfl))
   match xs2, hlen2 with
   | [z0, z1, z2], _ =>
    obtain ⟨b0, hb0⟩ := int_part (o := 1) (y := z0) (by rw [← drop2 cs 1 0 1 3 (by decide)]; exact fld cl_i (hf2 0 _ rfl))
    obtain ⟨b1, hb1⟩ := int_part (o := 2) (y := z1) (by rw [← drop2 cs 1 1 1 3 (by decide)]; exact fld cl_i (hf2 1 _ rfl))
    obtain ⟨b2, hb2⟩ := int_part (o := 3) (y := z2) (by rw [← drop2 cs 1 2 1 3 (by decide)]; exact fld cl_i (hf2 2 _ rfl))
    refine ⟨⟨a, b0, b1, b2⟩, trivial, parts_lir fun i d hd => ?_⟩
    match i, hd with
    | 0, hd => cases hd; exact lir_s ha
    | 1, hd => cases hd; exact lir_i hb0
    | 2, hd => cases hd; exact lir_i hb1
    | 3, hd => cases hd; exact lir_i hb2)
 exact ⟨l, h1, by have := bulk_len ys; omega⟩
theorem open_atms2 {n : Nat} {v : Value} {y : DataW H × List MemPlace} (h : DataW.trod enc Tryz.prog W 0 (fun _ => true) true n 94 [v] = some y) : ∃ l : List Am, Lir W (fun k => k < W.heap.size) v (.s 9 (l.flatMap dA)) ∧ l.length + 1 ≤ Rows.uptoBulk y.1 := by
 obtain ⟨l, ys, h1, h2, h3, -⟩ := open_row (α := Am) ⟨⟨0, [], [], 0⟩, [], ⟨0, [], [], 0⟩⟩ (f := dA) (z := 9) Tryz.underlying94 (by kernel_rfl) (by decide) dA_len (fun _ _ => True) h (fun k hk cs x hx => by
  obtain ⟨xs, n2, -, -, hl, hlen, hf⟩ := DataW.trod_struct Tryz.underlying103 hx
  match xs, hlen with
  | [y0, y1, y2], _ =>
   obtain ⟨a, ha⟩ := str_part (o := 4) (y := y1) (fld cl_s (hf 1 _ rfl))
   obtain ⟨xs2, n3, -, -, hl2, hlen2, hf2⟩ := DataW.trod_struct (x := y0) Tryz.underlying101 (fld cl_te (hf 0 _ rfl))
   obtain ⟨xs3, n4, -, -, hl3, hlen3, hf3⟩ := DataW.trod_struct (x := y2) Tryz.underlying101 (fld cl_te (hf 2 _ rfl))
   match xs2, hlen2, xs3, hlen3 with
   | [z0, z1, z2, z3], _, [r0, r1, r2, r3], _ =>
    obtain ⟨b0, hb0⟩ := int_part (o := 0) (y := z0) (by rw [← drop2 cs 0 0 1 4 (by decide)]; exact fld cl_i (hf2 0 _ rfl))
    obtain ⟨b1, hb1⟩ := str_part (o := 1) (y := z1) (by rw [← drop2 cs 0 1 1 4 (by decide)]; exact fld cl_s (hf2 1 _ rfl))
    obtain ⟨b2, hb2⟩ := str_part (o := 2) (y := z2) (by rw [← drop2 cs 0 2 1 4 (by decide)]; exact fld cl_s (hf2 2 _ rfl))
    obtain ⟨b3, hb3⟩ := int_part (o := 3) (y := z3) (by rw [← drop2 cs 0 3 1 4 (by decide)]; exact fld cl_i (hf2 3 _ rfl))
    obtain ⟨c0, hc0⟩ := int_part (o := 5) (y := r0) (by rw [← drop2 cs 5 0 1 4 (by decide)]; exact fld cl_i (hf3 0 _ rfl))
    obtain ⟨c1, hc1⟩ := str_part (o := 6) (y := r1) (by rw [← drop2 cs 5 1 1 4 (by decide)]; exact fld cl_s (hf3 1 _ rfl))
    obtain ⟨c2, hc2⟩ := str_part (o := 7) (y := r2) (by rw [← drop2 cs 5 2 1 4 (by decide)]; exact fld cl_s (hf3 2 _ rfl))
    obtain ⟨c3, hc3⟩ := int_part (o := 8) (y := r3) (by rw [← drop2 cs 5 3 1 4 (by decide)]; exact fld cl_i (hf3 3 _ rfl))
    refine ⟨⟨⟨b0, b1, b2, b3⟩, a, ⟨c0, c1, c2, c3⟩⟩, trivial, parts_lir fun i d hd => ?_⟩
    match i, hd with
    | 0, hd => cases hd; exact lir_i hb0
    | 1, hd => cases hd; exact lir_s hb1
    | 2, hd => cases hd; exact lir_s hb2
    | 3, hd => cases hd; exact lir_i hb3
    | 4, hd => cases hd; exact lir_s ha
    | 5, hd => cases hd; exact lir_i hc0
    | 6, hd => cases hd; exact lir_s hc1
    | 7, hd => cases hd; exact lir_s hc2
    | 8, hd => cases hd; exact lir_i hc3)
 exact ⟨l, h1, by have := bulk_len ys; omega⟩
theorem open_msgs2 {n : Nat} {v : Value} {y : DataW H × List MemPlace} (h : DataW.trod enc Tryz.prog W 0 (fun _ => true) true n 51 [v] = some y) :
  ∃ l : List Ms, Lir W (fun k => k < W.heap.size) v (.s 3 (l.flatMap dM)) ∧ l.length + 1 ≤ Rows.uptoBulk y.1 ∧ ∀ m ∈ l, m.fs.length ≤ Rows.uptoBulk y.1 ∧ m.wh.length ≤ Rows.uptoBulk y.1 := by
 obtain ⟨l, ys, h1, h2, h3, h4⟩ := open_row (α := Ms) ⟨[], [], []⟩ (f := dM) (z := 3) Tryz.underlying51 (by kernel_rfl) (by decide) ms_len (fun m d => m.fs.length ≤ Rows.uptoBulk d ∧ m.wh.length ≤ Rows.uptoBulk d) h (fun k hk cs x hx => by
  obtain ⟨xs, n2, -, rfl, hl, hlen, hf⟩ := DataW.trod_struct Tryz.underlying96 hx
  have hcl : cs.length = 3 := hl.trans cl_me
  match xs, hlen with
  | [y0, y1, y2], _ =>
   obtain ⟨a, ha⟩ := str_part (o := 0) (y := y0) (fld cl_s (hf 0 _ rfl))
   obtain ⟨u1, e1, g1⟩ := one_part (cs := cs) (o := 1) (by omega)
   obtain ⟨u2, e2, g2⟩ := one_part (cs := cs) (o := 2) (by omega)
   obtain ⟨fs, k1, k2⟩ := open_flds2 (v := u1) (y := y1) (by rw [← e1]; exact fld cl_fs (hf 1 _ rfl))
   obtain ⟨wh, k3, k4⟩ := open_atms2 (v := u2) (y := y2) (by rw [← e2]; exact fld cl_as (hf 2 _ rfl))
   refine ⟨⟨a, fs, wh⟩, ?_, parts_lir fun i d hd => ?_⟩
   ·simp only [List.map_cons, List.map_nil, Rows.uptoBulk, Rows.uptoBulkAll]
    omega
   ·match i, hd with
    | 0, hd => cases hd; exact lir_s ha
    | 1, hd => cases hd; exact ⟨_, g1, k1⟩
    | 2, hd => cases hd; exact ⟨_, g2, k3⟩)
 refine ⟨l, h1, by have := bulk_len ys; omega, fun m hm => ?_⟩
 obtain ⟨i, hi⟩ := List.getElem?_of_mem hm
 have hil := (List.getElem?_eq_some_iff.1 hi).1
 have hd : ys[i]? = some ys[i] := List.getElem?_eq_getElem (by omega)
 have := h4 i m _ hi hd
 have h5 := bulk_mem (List.getElem_mem (l := ys) (n := i) (by omega))
 omega
theorem sum_items : ∀ (l : List It) (ys : List (DataW H)), ys.length = l.length → (∀ (i : Nat) (a : It) (d : DataW H), l[i]? = some a → ys[i]? = some d → nIt a + 1 ≤ Rows.uptoBulk d ∧ (Rows.uptoBulk d ≤ 1000000000 → tdIt a)) → nIs l ≤ Rows.uptoBulkAll ys ∧ (Rows.uptoBulkAll ys ≤ 1000000000 → tdIs l)
 | [], ys, _, _ => by simp [nIs, tdIs]
 | x :: r, [], h, _ => by simp at h
 | x :: r, d :: ys, h, hq => by
  obtain ⟨h1, h2⟩ := hq 0 x d rfl rfl
  obtain ⟨h3, h4⟩ := sum_items r ys (by simpa using h) fun i a e ha he => hq (i + 1) a e (by simpa using ha) (by simpa using he)
  simp only [nIs, Rows.uptoBulkAll, tdIs]
  exact ⟨by omega, fun hb => ⟨h2 (by omega), h4 (by omega)⟩⟩
theorem sum_blocks : ∀ (l : List (List It)) (ys : List (DataW H)), ys.length = l.length → (∀ (i : Nat) (a : List It) (d : DataW H), l[i]? = some a → ys[i]? = some d → nIs a + 1 ≤ Rows.uptoBulk d ∧ (Rows.uptoBulk d ≤ 1000000000 → tdIs a)) → nBl l ≤ Rows.uptoBulkAll ys ∧ (Rows.uptoBulkAll ys ≤ 1000000000 → tdBl l)
 | [], ys, _, _ => by simp [nBl, tdBl]
 | x :: r, [], h, _ => by simp at h
 | x :: r, d :: ys, h, hq => by
  obtain ⟨h1, h2⟩ := hq 0 x d rfl rfl
  obtain ⟨h3, h4⟩ := sum_blocks r ys (by simpa using h) fun i a e ha he => hq (i + 1) a e (by simpa using ha) (by simpa using he)
  simp only [nBl, Rows.uptoBulkAll, tdBl]
  exact ⟨by omega, fun hb => ⟨h2 (by omega), h4 (by omega)⟩⟩
theorem dB1_len (b : List It) : ([dB b] : List D).length = 1 := rfl
theorem open_items2 : ∀ (n : Nat) {v : Value} {y : DataW H × List MemPlace}, DataW.trod enc Tryz.prog W 0 (fun _ => true) true n 52 [v] = some y →
  ∃ l : List It, Lir W (fun k => k < W.heap.size) v (dB l) ∧ nIs l + 1 ≤ Rows.uptoBulk y.1 ∧ (Rows.uptoBulk y.1 ≤ 1000000000 → tdIs l) := by
 intro n
 induction n using Nat.strongRecOn with
 | ind n ih =>
  intro v y h
  obtain ⟨l, ys, h1, h2, h3, h4⟩ := open_row (α := It) (.mk 0 [] [] [] [] 0 []) (f := dIt) (z := 7) Tryz.underlying52 (by kernel_rfl) (by decide) dIt_len (fun x d => nIt x + 1 ≤ Rows.uptoBulk d ∧ (Rows.uptoBulk d ≤ 1000000000 → tdIt x)) h (fun k hk cs x hx => by
   obtain ⟨xs, n2, hn2, rfl, hl, hlen, hf⟩ := DataW.trod_struct Tryz.underlying144 hx
   have hcl : cs.length = 7 := hl.trans cl_it
   match xs, hlen with
   | [y0, y1, y2, y3, y4, y5, y6], _ =>
    obtain ⟨kd, e0⟩ := int_part (o := 0) (y := y0) (fld cl_i (hf 0 _ rfl))
    obtain ⟨fr, e1⟩ := str_part (o := 1) (y := y1) (fld cl_s (hf 1 _ rfl))
    obtain ⟨u2, e2, g2⟩ := one_part (cs := cs) (o := 2) (by omega)
    obtain ⟨to, k1, k2⟩ := open_strs2 (v := u2) (y := y2) (by rw [← e2]; exact fld cl_ss (hf 2 _ rfl))
    obtain ⟨nm, e3⟩ := str_part (o := 3) (y := y3) (fld cl_s (hf 3 _ rfl))
    obtain ⟨al, e4⟩ := str_part (o := 4) (y := y4) (fld cl_s (hf 4 _ rfl))
    obtain ⟨tk, e5⟩ := int_part (o := 5) (y := y5) (fld cl_i (hf 5 _ rfl))
    obtain ⟨u6, e6, g6⟩ := one_part (cs := cs) (o := 6) (by omega)
    have h6 : DataW.trod enc Tryz.prog W 0 (fun _ => true) true n2 142 [u6] = some y6 := by rw [← e6]; exact fld cl_bs (hf 6 _ rfl)
    obtain ⟨bl, zs, k3, k4, k5, k6⟩ := open_row (α := List It) [] (f := fun b => [dB b]) (z := 1) Tryz.underlying142 (by kernel_rfl) (by decide) dB1_len (fun x d => nIs x + 1 ≤ Rows.uptoBulk d ∧ (Rows.uptoBulk d ≤ 1000000000 → tdIs x)) h6 (fun k' hk' cs' x' hx' => by
     have hcs' : ∃ u, cs' = [u] := by
      rcases DataW.trod_slice Tryz.underlying52 hx' with ⟨e, -⟩ | ⟨_, _, _, _, _, _, _, e, -⟩
      ·exact ⟨_, e⟩
      ·exact ⟨_, e⟩
     obtain ⟨u, rfl⟩ := hcs'
     obtain ⟨b, q1, q2, q3⟩ := ih k' (by omega) hx'
     refine ⟨b, ⟨q2, q3⟩, parts_lir fun i d hd => ?_⟩
     match i, hd with
     | 0, hd => cases hd; exact ⟨_, rfl, q1⟩)
    obtain ⟨s1, s2⟩ := sum_blocks bl zs k5 k6
    refine ⟨.mk kd fr to nm al tk bl, ?_, parts_lir fun i d hd => ?_⟩
    ·simp only [List.map_cons, List.map_nil, Rows.uptoBulk, Rows.uptoBulkAll, nIt, tdIt]
     have b0 := bulk_one y0.1
     refine ⟨by omega, fun hb => ⟨by omega, s2 (by omega)⟩⟩
    ·match i, hd with
     | 0, hd => cases hd; exact lir_i e0
     | 1, hd => cases hd; exact lir_s e1
     | 2, hd => cases hd; exact ⟨_, g2, k1⟩
     | 3, hd => cases hd; exact lir_s e3
     | 4, hd => cases hd; exact lir_s e4
     | 5, hd => cases hd; exact lir_i e5
     | 6, hd => cases hd; exact ⟨_, g6, by rw [dBl_map]; exact k3⟩)
  obtain ⟨s1, s2⟩ := sum_items l ys h3 h4
  exact ⟨l, by unfold dB; rw [dIs_map]; exact h1, by omega, fun hb => s2 (by omega)⟩
theorem open_prots2 {n : Nat} {v : Value} {y : DataW H × List MemPlace} (h : DataW.trod enc Tryz.prog W 0 (fun _ => true) true n 27 [v] = some y) (hb : Rows.uptoBulk y.1 ≤ 1000000000) :
  ∃ l : List Pr, Lir W (fun k => k < W.heap.size) v (.s 4 (l.flatMap dP)) ∧ l.length ≤ 1000000000 ∧ ∀ p ∈ l, GR p := by
 obtain ⟨l, ys, h1, h2, h3, h4⟩ := open_row (α := Pr) ⟨[], [], [], []⟩ (f := dP) (z := 4) Tryz.underlying27 (by kernel_rfl) (by decide) pr_len (fun p d => Rows.uptoBulk d ≤ 1000000000 → GR p) h (fun k hk cs x hx => by
  obtain ⟨xs, n2, -, rfl, hl, hlen, hf⟩ := DataW.trod_struct Tryz.underlying54 hx
  have hcl : cs.length = 4 := hl.trans cl_pr
  match xs, hlen with
  | [y0, y1, y2, y3], _ =>
   obtain ⟨a, ha⟩ := str_part (o := 0) (y := y0) (fld cl_s (hf 0 _ rfl))
   obtain ⟨u1, e1, g1⟩ := one_part (cs := cs) (o := 1) (by omega)
   obtain ⟨u2, e2, g2⟩ := one_part (cs := cs) (o := 2) (by omega)
   obtain ⟨u3, e3, g3⟩ := one_part (cs := cs) (o := 3) (by omega)
   obtain ⟨rs, k1, k2⟩ := open_strs2 (v := u1) (y := y1) (by rw [← e1]; exact fld cl_ss (hf 1 _ rfl))
   obtain ⟨ms, k3, k4, k5⟩ := open_msgs2 (v := u2) (y := y2) (by rw [← e2]; exact fld cl_ms (hf 2 _ rfl))
   obtain ⟨bd, k6, k7, k8⟩ := open_items2 _ (v := u3) (y := y3) (by rw [← e3]; exact fld cl_is (hf 3 _ rfl))
   refine ⟨⟨a, rs, ms, bd⟩, ?_, parts_lir fun i d hd => ?_⟩
   ·simp only [List.map_cons, List.map_nil, Rows.uptoBulk, Rows.uptoBulkAll]
    intro hb
    exact ⟨by show nIs bd ≤ _; omega, by show rs.length ≤ _; omega, by show ms.length ≤ _; omega, fun m hm => by have := k5 m hm; omega, k8 (by omega)⟩
   ·match i, hd with
    | 0, hd => cases hd; exact lir_s ha
    | 1, hd => cases hd; exact ⟨_, g1, k1⟩
    | 2, hd => cases hd; exact ⟨_, g2, k3⟩
    | 3, hd => cases hd; exact ⟨_, g3, k6⟩)
 refine ⟨l, h1, by have := bulk_len ys; omega, fun p hp => ?_⟩
 obtain ⟨i, hi⟩ := List.getElem?_of_mem hp
 have hil := (List.getElem?_eq_some_iff.1 hi).1
 have hd : ys[i]? = some ys[i] := List.getElem?_eq_getElem (by omega)
 have h5 := bulk_mem (List.getElem_mem (l := ys) (n := i) (by omega))
 exact h4 i p _ hi hd (by omega)
end
/- SyntaxEqual holds, where what it reads is of bulk at most 1048576: the law returns true, and its arguments read as before. The card: the tables of Go's library are as the program's text lays them. No other condition. -/
open Go.ChangeShapes Go.WideShapes Go.ChangeAt Go.RowKit Go.Joins

set_option maxRecDepth 100000 in
theorem syntaxequal_contract (H : Type) (enc : TypeId × Value → H) (W : World) (base : Nat) (args : Array Value) (ds gs : List (DataW H)) (before : List MemPlace)
  (hval0 : ∀ (j : Nat) t v, Tryz.f5.params[j]? = some t → args[j]? = some v → Value.okWide Tryz.prog W .any base t v)
  (hW : DataW.Whole enc Tryz.prog Tryz.f5.params.toList Rows.syntaxEqualSpec.vars false W args.toList ds gs before) (hk : Rows.uptoSmall H (ds ++ gs) = true) (hL : laidMetH Tryz.prog Rows.syntaxEqualUptoRow.laid W) :
  Calls Tryz.prog 5 args W fun e W' => ∃ v, e = .returned v ∧ Rows.syntaxEqualSpec.post enc Tryz.prog Tryz.f5 false true false false W args v W' := by
 have hTab : Tb W := tb_of_laid hL
 have hval := hval0
 have hW' := hW
 obtain ⟨p, q, hA0, hV, rfl, hfz, hnd⟩ := hW
 have hA : DataW.TrodAll enc Tryz.prog W 0 (fun _ => true) true Tryz.f5.params.toList args.toList ds p := hA0
 rw [Tryz.params5] at hA hval
 obtain ⟨v0, v1, v2, d0, d1, d2, p0, p1, p2, rfl, rfl, rfl, h0, h1, h2⟩ := trodAll_three hA
 obtain ⟨rfl, rfl⟩ := trodVars_none hV
 have hk2 : Rows.uptoBulkAll ([d0, d1, d2] ++ []) ≤ 1048576 := of_decide_eq_true hk
 simp only [List.append_nil, Rows.uptoBulkAll] at hk2
 obtain ⟨A0, m0, k0, rfl⟩ := okWide_slice Tryz.underlying27 (hval 0 27 v0 rfl rfl)
 obtain ⟨n0, h0⟩ := h0
 have b0 : Rows.uptoBulk d0 ≤ 1000000000 := by omega
 obtain ⟨l0, L0, e0, g0⟩ := open_prots2 (v := .slice A0 m0 k0) (y := (d0, p0)) h0 b0
 obtain ⟨A1, m1, k1, rfl⟩ := okWide_slice Tryz.underlying27 (hval 1 27 v1 rfl rfl)
 obtain ⟨n1, h1⟩ := h1
 have b1 : Rows.uptoBulk d1 ≤ 1000000000 := by omega
 obtain ⟨l1, L1, e1, g1⟩ := open_prots2 (v := .slice A1 m1 k1) (y := (d1, p1)) h1 b1
 obtain ⟨s2, rfl, rfl, _, _⟩ := Go.ChangeMaps.open_string Tryz.underlying9 (hval 2 9 v2 rfl rfl) h2
 have key := syntaxequal_walk hTab hTab.lt l0 l1 s2.data.toList _ _ L0 L1 g0 g1 e0 e1
 rw [← ofL_of s2] at key
 exact key.mono fun e W' hok => law_post Tryz.laidOut rfl Tryz.underlying4 (by kernel_rfl) rfl hW' rfl hok
theorem syntaxequal_reads (os : Os) {H : Type} (enc : TypeId × Value → H) : ∃ places, DataW.whole enc Tryz.prog ((World.laidAll Tryz.prog os Rows.syntaxEqualUptoRow.laid).forCall (fun _ _ => 0) ⟨#[], #[.slice none 0 0, .slice none 0 0, .string ⟨#[]⟩], []⟩).memory Tryz.f5.params.toList Rows.syntaxEqualSpec.vars false (#[.slice none 0 0, .slice none 0 0, .string ⟨#[]⟩] : Array Value).toList 8 = some ([.nil, .nil, .lit (.string [])], [], places) :=
 ⟨[], by kernel_rfl⟩
set_option maxRecDepth 100000 in
theorem syntaxequal_lifted (os : Os) (started : os.Started) (H : Type) (enc : TypeId × Value → H) (F : Stop.Interp) :
  ReturnsInHanded {} Tryz.checked os 5 .any ((Rows.OpenSpec.upto Rows.syntaxEqualSpec).preRow enc Tryz.prog Tryz.f5 Rows.syntaxEqualUptoRow.domain false Rows.syntaxEqualUptoRow.laid) (((Rows.OpenSpec.upto Rows.syntaxEqualSpec).at F).post enc Tryz.prog Tryz.f5 false true false false) := by
 obtain ⟨places, hx⟩ := syntaxequal_reads os enc
 have hok : Input.okWideB Tryz.checked.prog ((World.laidAll Tryz.prog os Rows.syntaxEqualUptoRow.laid).forCall (fun _ _ => 0) ⟨#[], #[.slice none 0 0, .slice none 0 0, .string ⟨#[]⟩], []⟩) 5 ⟨#[], #[.slice none 0 0, .slice none 0 0, .string ⟨#[]⟩], []⟩ = true := by kernel_rfl
 refine returnsInHanded_of_row (C := Tryz.checked) (s := Rows.OpenSpec.upto Rows.syntaxEqualSpec) Tryz.own started (by kernel_rfl) Tryz.func5
  ⟨World.laidAll Tryz.prog os Rows.syntaxEqualUptoRow.laid, fun _ _ => 0, ⟨#[], #[.slice none 0 0, .slice none 0 0, .string ⟨#[]⟩], []⟩, World.laidAll_os _ _ _, World.shaped_of_ZipB (by kernel_rfl) (by kernel_rfl), (Input.okWide_of_okWideB (base := 0) hok).1, (Input.okWide_of_okWideB hok).2,
   OpenSpec.preRow_of_cond 8 hx (by kernel_rfl) (fun k hk => by cases hk; kernel_rfl) (by kernel_rfl) (by rw [MakeChecks.laidMetH_plain _ _ _ (by kernel_rfl)]; exact laidMet_laidAll _ (by kernel_rfl) (by kernel_rfl)), by
   simp only [Assume.holds]
   exact ⟨by simp, by simp, fun _ => Modest.zero, by simp, by simp⟩⟩ ?_
 intro W base args ds gs before hval hW _ hcond _ hL _ _
 exact syntaxequal_contract H enc W base args ds gs before hval hW (hcond _ rfl) hL

theorem syntaxequal_jplace : (Rows.syntaxEqualUptoRow.inPlace == Tryz.pinned.checked.prog.inPlace 5) = true := by kernel_rfl
theorem syntaxequal_junf : (Rows.syntaxEqualUptoRow.unfollowed == Tryz.pinned.checked.prog.unfollowed 5) = true := by kernel_rfl
theorem syntaxequal_jrec : (Rows.syntaxEqualUptoRow.recurses == Tryz.pinned.checked.prog.recurses 5) = true := by kernel_rfl
theorem syntaxequal_jnamed : (Rows.syntaxEqualUptoRow.named == Tryz.pinned.checked.prog.varsNamed 5) = true := by kernel_rfl
theorem syntaxequal_jwf : Rows.syntaxEqualUptoRow.wf (OpenSpec.ofChange Rows.syntaxEqualSpec) = true := by kernel_rfl
theorem syntaxequal_jlaid : laidOutB Tryz.pinned.checked.prog = true := by kernel_rfl
theorem syntaxequal_jmaps : mapsRowed Tryz.pinned.checked.prog = true := by kernel_rfl
theorem syntaxequal_jtie : namedTie Tryz.pinned.checked.prog Rows.syntaxEqualUptoRow.named Rows.syntaxEqualSpec.vars = true := by kernel_rfl
theorem syntaxequal_closed : joinedFacts Tryz.pinned.checked.prog 5 Tryz.f5 Rows.syntaxEqualSpec Rows.syntaxEqualUptoRow = true := by
 unfold joinedFacts
 simp only [Bool.and_eq_true]
 exact ⟨⟨⟨⟨⟨⟨⟨⟨⟨⟨⟨⟨⟨⟨⟨⟨⟨⟨⟨⟨⟨⟨⟨⟨⟨⟨⟨⟨⟨⟨⟨syntaxequal_jwf, syntaxequal_jlaid⟩, syntaxequal_jmaps⟩, by kernel_rfl⟩, syntaxequal_jtie⟩, by kernel_rfl⟩, by kernel_rfl⟩, by kernel_rfl⟩, by kernel_rfl⟩, syntaxequal_jplace⟩, syntaxequal_junf⟩, syntaxequal_jrec⟩, syntaxequal_jnamed⟩, by kernel_rfl⟩, by kernel_rfl⟩, by kernel_rfl⟩, by kernel_rfl⟩, by kernel_rfl⟩, by kernel_rfl⟩, by kernel_rfl⟩, by kernel_rfl⟩, by kernel_rfl⟩, by kernel_rfl⟩, by kernel_rfl⟩, by kernel_rfl⟩, by kernel_rfl⟩, by kernel_rfl⟩, by kernel_rfl⟩, by kernel_rfl⟩, by kernel_rfl⟩, by kernel_rfl⟩, by kernel_rfl⟩
theorem syntaxequal_row : Rows.SyntaxEqualUptoSaid :=
 OpenClaim.holds_of_cond 5 Tryz.f5 rfl rfl rfl rfl rfl rfl rfl ⟨rfl, rfl, rfl, rfl, rfl⟩ rfl rfl rfl rfl rfl (by kernel_rfl) Tryz.func5 syntaxequal_closed
  (of_decide_eq_true (by kernel_rfl)) (by unfold Func.isWrapper; first | (rw [if_pos (by decide +kernel)]; kernel_rfl) | (rw [if_neg (by decide +kernel)]; exact ⟨rfl, rfl⟩))
  (fun os started H enc _ F => by rw [OpenClaim.pre_eq_preRow]; exact syntaxequal_lifted os started H enc F)

theorem syntaxequal_holds : Rows.SyntaxEqualUptoCardSaid :=
 Claim7.holds_tied_plain_at .later [] [.data, .data, .data, .data, .pinned] true Rows.syntaxEqualUptoCard.stood.harness false
  syntaxequal_row (fun _ h => by cases h) (by kernel_rfl) (fun _ h => by cases h) syntaxEqualUpto_row_tie rfl ⟨rfl, rfl⟩ (by kernel_rfl) rfl
  (fun f fn hf hfn => by
   obtain rfl : f = 5 := Option.some.inj ((show Tryz.prog.funcNamed "farandole/farandolelaw10.SyntaxEqual" = some 5 by kernel_rfl).symm.trans hf) |>.symm
   obtain rfl : fn = Tryz.f5 := (Option.some.inj (Tryz.func5.symm.trans hfn)).symm
   exact ⟨by kernel_rfl, fun j t ht => by
    have hall : (Tryz.f5.params.toList.all fun u => !Tryz.prog.wantsStandIn u) = true := by kernel_rfl
    have hm : t ∈ Tryz.f5.params.toList := by simpa using Array.mem_of_getElem? ht
    have := List.all_eq_true.1 hall t hm
    exact (show Tryz.prog.wantsStandIn t = false by simpa using this)⟩)
  (by kernel_rfl)
end Go.Proofs.YtekpefcggikcbaaGreatDoor
