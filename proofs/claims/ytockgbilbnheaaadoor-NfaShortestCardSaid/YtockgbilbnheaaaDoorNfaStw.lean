/- nfa's stepsOf: a map from letters to sets. -/
import Derived.Test.YtockgbilbnheaaaDoorMNfaEach
import Derived.Maps.Own
import Derived.Maps.OwnSet
import Derived.Deep.RegionHeld3
import Derived.Test.YtockgbilbnheaaaDoorNfaStep
namespace Go.Proofs.YtockgbilbnheaaaDoor
/- nfa's stepsOf: a map from letters to sets. -/
open Go.RowKit Go.Maps

/-- An element of the map reads as itself. -/
def Rv (v : Value) : Option (DataW Value × List MemPlace) := some (.held v, [])
def nilv : Value := .slice none 0 0
def kz (c : Int) : Lit := .int .i64 c
theorem lawI : Keyed Tryd.prog 3 := int_keyed Tryd.underlying3
theorem kz_key (c : Int) (h : I64 c) : keyOf Tryd.prog 3 (.int .i64 c) = some (kz c) := keyOf_int_mk Tryd.underlying3 (by
 have h1 : IntKind.i64.min = -9223372036854775808 := rfl
 have h2 : IntKind.i64.max = 9223372036854775807 := rfl
 simp only [Lit.wf, Bool.and_eq_true, decide_eq_true_eq]
 unfold I64 at h
 omega)
theorem kz_ne {c d : Int} (h : c ≠ d) : kz c ≠ kz d := fun e => h (by unfold kz at e; simpa using e)
theorem zeroSet (w : World) : (zeroValue 35).run Tryd.prog w = .ok nilv w := by kernel_rfl
theorem has_nil_words (n : Nat) : has [] n = false := by
 unfold has wat
 split <;> simp
theorem SetIs.empty (w : World) (P : Nat → Prop) (h : ∀ n, ¬ P n) : SetIs w nilv [] P :=
 ⟨.inl ⟨rfl, rfl⟩, (by unfold Canon ulen; simp [back]), (by intro x hx; cases hx), (by simp), (fun n => by rw [has_nil_words]; simp [h n])⟩
theorem has_or (a b : List Nat) (n : Nat) : has (setop (fun x y => x ||| y) a b) n = (has a n || has b n) := by
 unfold has
 rw [wat_setop (by rfl), Nat.testBit_or]
/-- The map of block b holds, for each letter, the union of the closures of where the arcs of T with this letter lead. -/
structure MapS (w : World) (ar : List Ac) (D : DataW Value) (T : Ac → Prop) : Prop where
 hs : ∀ c, Maps.has D (kz c) = true ↔ ∃ x, T x ∧ x.2.1 = c
 at_ : ∀ c, ∃ v ws, D.atKey (kz c) (.held nilv) = .held v ∧ SetIs w v ws (fun n => ∃ x, T x ∧ x.2.1 = c ∧ Rc ar [x.2.2] n)
theorem MapS.start (w : World) (ar : List Ac) (T : Ac → Prop) (hT : ∀ x, ¬ T x) : MapS w ar (.map []) T :=
 ⟨fun c => ⟨(fun h => by cases h), (fun ⟨x, h, _⟩ => absurd h (hT x))⟩, fun c => ⟨nilv, [], rfl, SetIs.empty _ _ fun n ⟨x, h, _⟩ => hT x h⟩⟩
theorem MapS.keep {w w' : World} {ar : List Ac} {D : DataW Value} {T : Ac → Prop} (h : MapS w ar D T) (hk : ∀ v ws, Wst w v ws → Wst w' v ws) : MapS w' ar D T :=
 ⟨h.hs, fun c => let ⟨v, ws, h1, h2⟩ := h.at_ c; ⟨v, ws, h1, h2.keep (hk v ws h2.st)⟩⟩
theorem MapS.congr {w : World} {ar : List Ac} {D : DataW Value} {T T' : Ac → Prop} (h : MapS w ar D T) (hT : ∀ x, T x ↔ T' x) : MapS w ar D T' := by
 have e : T = T' := funext fun x => propext (hT x)
 rw [← e]; exact h
theorem MapS.put {w : World} {ar : List Ac} {D : DataW Value} {T : Ac → Prop} {x : Ac} {v : Value} {ws : List Nat} (h : MapS w ar D T) (hD : IsMap D) (hs : SetIs w v ws (fun n => (∃ y, T y ∧ y.2.1 = x.2.1 ∧ Rc ar [y.2.2] n) ∨ Rc ar [x.2.2] n)) : MapS w ar (D.put (kz x.2.1) (.held v)) (fun y => T y ∨ y = x) := by
 refine ⟨fun c => ?_, fun c => ?_⟩
 ·by_cases hc : c = x.2.1
  ·subst hc
   rw [has_put_same hD (by trivial)]
   exact ⟨fun _ => ⟨x, .inr rfl, rfl⟩, fun _ => rfl⟩
  ·rw [has_put_other (kz_ne hc), h.hs]
   constructor
   ·rintro ⟨y, h1, h2⟩; exact ⟨y, .inl h1, h2⟩
   ·rintro ⟨y, h1 | h1, h2⟩
    ·exact ⟨y, h1, h2⟩
    ·subst h1; exact absurd h2.symm hc
 ·by_cases hc : c = x.2.1
  ·subst hc
   refine ⟨v, ws, atKey_put_same hD (by trivial) _ _, ⟨hs.st, hs.can, hs.wds, hs.len, fun n => (hs.has n).trans ?_⟩⟩
   constructor
   ·rintro (⟨y, h1, h2, h3⟩ | h1)
    ·exact ⟨y, .inl h1, h2, h3⟩
    ·exact ⟨x, .inr rfl, rfl, h1⟩
   ·rintro ⟨y, h1 | h1, h2, h3⟩
    ·exact .inl ⟨y, h1, h2, h3⟩
    ·subst h1; exact .inr h3
  ·obtain ⟨v2, ws2, h1, h2⟩ := h.at_ c
   refine ⟨v2, ws2, by rw [atKey_put_other (kz_ne hc)]; exact h1, ⟨h2.st, h2.can, h2.wds, h2.len, fun n => (h2.has n).trans ?_⟩⟩
   constructor
   ·rintro ⟨y, h3, h4, h5⟩; exact ⟨y, .inl h3, h4, h5⟩
   ·rintro ⟨y, h3 | h3, h4, h5⟩
    ·exact ⟨y, h3, h4, h5⟩
    ·subst h3; exact absurd h4.symm hc
theorem map_block {w : World} {b n : Nat} {D : DataW Value} (h : w.ownsMap Tryd.prog 3 Rv b n D) : ∃ es cl, w.heap[b]? = some (.map es cl) := by
 obtain ⟨es, cl, h, _⟩ := h; exact ⟨es, cl, h⟩
theorem map_isMap {w : World} {b n : Nat} {D : DataW Value} (h : w.ownsMap Tryd.prog 3 Rv b n D) : IsMap D := by
 obtain ⟨es, cl, _, _, _, h⟩ := h; exact ⟨_, h⟩
theorem Wst.grown {w w' : World} {b : Nat} {es : Array MapEntry} {cl : Nat} {v : Value} {ws : List Nat} (h : Wst w v ws) (hb : w.heap[b]? = some (.map es cl)) (hg : w.grownBy w' (some b)) : Wst w' v ws :=
 h.keep fun g cs fr hgc => hg.block g (Array.getElem?_eq_some_iff.1 hgc).1 (fun e => by cases e; rw [hb] at hgc; cases hgc)
theorem cell_ne_map {w : World} {b : Nat} {es : Array MapEntry} {cl : Nat} {a : Addr} {v : Value} (hb : w.heap[b]? = some (.map es cl)) (h : w.cell? a = some v) : a.block ≠ b := by
 rintro rfl
 unfold World.cell? at h
 rw [hb] at h
 cases h
theorem Sl.grown {α : Type} {f : α → Value} {w w' : World} {b : Nat} {es : Array MapEntry} {cl : Nat} {v : Value} {xs : List α} (h : Sl f w v xs) (hb : w.heap[b]? = some (.map es cl)) (hg : w.grownBy w' (some b)) : Sl f w' v xs := by
 rcases h with h | ⟨ad, c, hv, hc, hcell⟩
 ·exact .inl h
 ·exact .inr ⟨ad, c, hv, hc, fun j x hj => hg.cell (hcell j x hj) (fun e => cell_ne_map hb (hcell j x hj) (Option.some.inj e))⟩
theorem CE.grown {w w' : World} {b : Nat} {es : Array MapEntry} {cl : Nat} {g S k : Nat} {ar : List Ac} {vals : List Value} (h : CE w g S k ar vals) (hb : w.heap[b]? = some (.map es cl)) (hg : w.grownBy w' (some b)) : CE w' g S k ar vals :=
 ⟨(hg.block g (lt_of_some h.row) (fun e => by cases e; have := h.row; rw [hb] at this; cases this)).trans h.row, h.len, fun j v hj hv => let ⟨ws, hs⟩ := h.set j v hj hv; ⟨ws, hs.keep (hs.st.grown hb hg)⟩⟩
theorem grown_below {w w' : World} (hb : Below w.heap.size w w') (r : Option Nat) : w.grownBy w' r := ⟨hb.os, hb.tape, hb.output, hb.size, fun k hk _ => hb.block k hk⟩
theorem grown_trans {a b c : World} {r : Option Nat} (h : a.grownBy b r) (k : b.grownBy c r) : a.grownBy c r :=
 ⟨k.os.trans h.os, k.tape.trans h.tape, k.output.trans h.output, Nat.le_trans h.size k.size, fun i hi hn => (k.block i (Nat.lt_of_lt_of_le hi h.size) hn).trans (h.block i hi hn)⟩
def StsP (ar : List Ac) (ws : List Nat) (w : World) (e : Ending) (w' : World) : Prop :=
 ∃ (b n : Nat) (D : DataW Value), e = .returned (.map (some b)) ∧ w.heap.size ≤ b ∧ w'.ownsMap Tryd.prog 3 Rv b n D ∧ n ≤ 10000000 ∧ MapS w' ar D (fun x => x ∈ ar ∧ Els ws x.1 ∧ 1 ≤ x.2.1) ∧ Below w.heap.size w w'
/- nfa's stepsOf: the walk (tools/sts_gen.py). -/
open Go.RowKit Go.Maps

theorem has_lt {ws : List Nat} {n : Nat} (h : has ws n = true) : n < 4096 := by
 apply Decidable.byContradiction
 intro hn
 rw [has_big ws n (by omega)] at h
 cases h
theorem map_lookup {w : World} {b n : Nat} {D : DataW Value} (h : w.ownsMap Tryd.prog 3 Rv b n D) {c : Int} (hc : I64 c) : ∃ u, (Instr.lookup 80 (.map (some b)) (.int .i64 c) false).run Tryd.prog w = .ok u w ∧ D.atKey (kz c) (.held nilv) = .held u := by
 obtain ⟨u, ps, h1, h2⟩ := h.lookup lawI Tryd.underlying80 (zeroSet w) (rfl : Rv nilv = some (.held nilv, [])) (kz_key c hc)
 unfold Rv at h2
 simp only [Option.some.injEq, Prod.mk.injEq] at h2
 exact ⟨u, h1, h2.1.symm⟩
theorem map_store {w : World} {b n : Nat} {D : DataW Value} (h : w.ownsMap Tryd.prog 3 Rv b n D) {c : Int} (hc : I64 c) (hn : n < maxLen) (v : Value) : ∃ w', (Instr.mapUpdate 80 (.map (some b)) (.int .i64 c) v).run Tryd.prog w = .ok () w' ∧ w'.ownsMap Tryd.prog 3 Rv b (n + 1) (D.put (kz c) (.held v)) ∧ w.grownBy w' (some b) :=
 h.update lawI Tryd.underlying80 hn (kz_key c hc) (rfl : Rv v = some (.held v, []))
def So (w1 : World) (b : Nat) (ar : List Ac) (L : List Nat) (i : Value) (wr : World) : Prop :=
 ∃ (k n : Nat) (D : DataW Value), k ≤ L.length ∧ i = .int .i64 k ∧ wr.ownsMap Tryd.prog 3 Rv b n D ∧ n ≤ 2000 * k ∧ MapS wr ar D (fun x => x ∈ ar ∧ (∃ m ∈ L.take k, x.1 = ((m : Nat) : Int)) ∧ 1 ≤ x.2.1) ∧ w1.grownBy wr (some b)
def Si (w1 : World) (b : Nat) (ar : List Ac) (T : Ac → Prop) (k : Nat) (r : List Ac) (i : Value) (wr : World) : Prop :=
 ∃ (j n : Nat) (D : DataW Value), j ≤ r.length ∧ i = .int .i64 j ∧ wr.ownsMap Tryd.prog 3 Rv b n D ∧ n ≤ 2000 * k + j ∧ MapS wr ar D (fun x => T x ∨ x ∈ r.take j) ∧ w1.grownBy wr (some b)
theorem or_setis {w : World} {v7 : Value} {a b : List Nat} {P Q : Nat → Prop} {B : Nat} (ho : Own B w v7 (setop (fun x y => x ||| y) a b)) (ha : Wds a) (hb : Wds b) (hp : ∀ n, has a n = true ↔ P n) (hq : ∀ n, has b n = true ↔ Q n) : SetIs w v7 (setop (fun x y => x ||| y) a b) (fun n => P n ∨ Q n) :=
 ⟨Wst.of_Own ho, setop_canon _ _ _, setop_wds or_u64 ha hb, setop_len _ _ _, fun n => by rw [has_or, Bool.or_eq_true, hp, hq]⟩
set_option maxRecDepth 100000 in
set_option maxHeartbeats 4000000 in
theorem steps_any (S : Nat) (st fi v vs : Value) (ar : List Ac) (g : Nat) (vals : List Value) (ws : List Nat) (w : World) (ha : Acs w v ar) (hv : VA S ar) (hc : CE w g S S ar vals) (hs : Sl uv w vs ws) (hws : Wds ws) (hwl : ws.length ≤ 64) (hT : Tab w) :
  Calls Tryd.prog 40 #[.agg #[.int .i64 (S : Int), st, fi, v], .slice (some ⟨g, 0, none⟩) S S, vs] w (StsP ar ws w) := by
 have Ha := Lib.hid ha; have Hv := Lib.hid hv; have Hs := Lib.hid hs; have Hws := Lib.hid hws; have HT := Lib.hid hT; have Hc := Lib.hid hc
 have hT0 := hT.size
 clear ha hv hs hws hT hc
 have hmm := @run_makeMap Tryd.prog
 have hbw : Below w.heap.size w ((w.alloc (.cells #[.int .i64 (S : Int), st, fi, v] 32)).alloc (.map #[] 0)) := ((Below.refl _ w).alloc (Nat.le_refl _) _).alloc (by simp) _
 obtain ⟨W, hW⟩ : ∃ W, W = (w.alloc (.cells #[.int .i64 (S : Int), st, fi, v] 32)).alloc (.map #[] 0) := ⟨_, rfl⟩
 have hWs : W.heap.size = w.heap.size + 2 := by rw [hW]; simp
 have hWb : W.heap[w.heap.size]? = some (.cells #[.int .i64 (S : Int), st, fi, v] 32 (0, 0)) := by rw [hW]; exact heap_alloc_2 w _ _
 have hWm : W.ownsMap Tryd.prog 3 Rv (w.heap.size + 1) 0 (.map []) := by
  have h := World.ownsMap_made (w.alloc (.cells #[.int .i64 (S : Int), st, fi, v] 32)) Tryd.prog 3 Rv
  have e : (w.alloc (.cells #[.int .i64 (S : Int), st, fi, v] 32)).heap.size = w.heap.size + 1 := by simp
  rw [e] at h
  rw [hW]; exact h
 rw [← hW] at hbw
 have Hbw := Lib.hid hbw; have HWs := Lib.hid hWs; have HWb := Lib.hid hWb; have HWm := Lib.hid hWm
 clear hbw hWs hWb hWm
 go_enter Tryd.func40, Tryd.ntmps40
 go_wp2_with fail
 rw [← hW]
 clear hW hmm
 refine (list_any vs ws W (Hs.out.below Hbw.out) (by unfold Room2; omega) Hws.out (HT.out.below Hbw.out hT0)).mono ?_
 rintro e w1 ⟨vl, rfl, hsl, hb1⟩
 obtain ⟨L, hL⟩ : ∃ L, L = els ws := ⟨_, rfl⟩
 rw [← hL] at hsl
 have hLl : L.length ≤ 4096 := by rw [hL]; exact els_len_le ws
 have HLt := Lib.hid (show ∀ n ∈ L, n < 4096 from fun n hn => by rw [hL] at hn; exact has_lt ((mem_els ws n).1 hn))
 obtain ⟨Al, cl, rfl⟩ := hsl.shape
 have HL := Lib.hid hL
 have hm1 : w1.ownsMap Tryd.prog 3 Rv (w.heap.size + 1) 0 (.map []) := HWm.out.kept (grown_below hb1 none) (by simp)
 obtain ⟨es0, cl0, hmb⟩ := map_block hm1
 have KB := Lib.hid (show ∀ w', w1.grownBy w' (some (w.heap.size + 1)) → Below w.heap.size w w' from fun w' h => Hbw.out.trans ((hb1.mono (by have := HWs.out; omega)).trans ⟨h.os, h.tape, h.output, h.size, fun k hk => h.block k (by have := hb1.size; have := HWs.out; omega) (fun e => by cases e; omega)⟩))
 have KX := Lib.hid (show ∀ w', w1.grownBy w' (some (w.heap.size + 1)) → w'.cell? ⟨w.heap.size, 0, none⟩ = some (.int .i64 (S : Int)) ∧ w'.cell? ⟨w.heap.size, 1, none⟩ = some st ∧ w'.cell? ⟨w.heap.size, 2, none⟩ = some fi ∧ w'.cell? ⟨w.heap.size, 3, none⟩ = some v from fun w' h => by
  have g1 := (h.block w.heap.size (by have := hb1.size; have := HWs.out; omega) (fun e => absurd (Option.some.inj e) (by omega))).trans ((hb1.block _ (by have := HWs.out; omega)).trans HWb.out)
  exact ⟨cell_of_row _ _ 0 _ _ _ g1, cell_of_row _ _ 1 _ _ _ g1, cell_of_row _ _ 2 _ _ _ g1, cell_of_row _ _ 3 _ _ _ g1⟩)
 have KL := Lib.hid (show ∀ w', w1.grownBy w' (some (w.heap.size + 1)) → Sl nv w' (.slice Al L.length cl) L from fun w' h => hsl.grown hmb h)
 have Hm1 := Lib.hid hm1
 have hs1 : w.heap.size + 2 ≤ w1.heap.size := by have := hb1.size; have := HWs.out; omega
 clear hL hsl hb1 hm1 hmb
 go_wp2_with fail
 go_loopw [16] (fun i wr => So w1 (w.heap.size + 1) ar L i wr) (fun i _ => L.length - (intOf i).toNat)
 case atStart => exact ⟨0, 0, .map [], Nat.zero_le _, rfl, Hm1.out, by simp, MapS.start _ _ _ (by simp), World.grownBy.refl _ _⟩
 case round =>
  obtain ⟨k, n0, D, hk, rfl, hown, hn0, hms, hg⟩ := hrel
  have HO := Lib.hid hown; have HM := Lib.hid hms; have HG := Lib.hid hg
  clear hown hms hg
  by_cases hlt : k < L.length
  ·obtain ⟨ad, c', hs, hcap, hcell⟩ := sl_cell (KL.out _ HG.out) k hlt
   simp only [Value.slice.injEq, true_and] at hs
   obtain ⟨rfl, rfl⟩ := hs
   have htk : ∀ x, x ∈ L.take (k + 1) ↔ x ∈ L.take k ∨ x = L[k] := fun x => by rw [List.take_succ_eq_append_getElem hlt, List.mem_append, List.mem_singleton]
   have hnl := HLt.out _ (List.getElem_mem hlt)
   obtain ⟨n, hn⟩ : ∃ n, n = L[k] := ⟨_, rfl⟩
   rw [← hn] at hcell htk hnl
   have Htk := Lib.hid htk; clear htk hn
   unfold nv at hcell
   obtain ⟨x0, x1, x2, x3⟩ := KX.out _ HG.out
   obtain ⟨r, hr⟩ : ∃ r, r = btw ar ((n : Int), 1, 0) ((n : Int) + 1, 0, 0) := ⟨_, rfl⟩
   have hpq : cmpA ((n : Int), 1, 0) ((n : Int) + 1, 0, 0) < 0 := cmpA_neg.2 (by unfold LtA; dsimp only; omega)
   obtain ⟨va, hva⟩ : ∃ va, va = btwV v ar ((n : Int), 1, 0) ((n : Int) + 1, 0, 0) := ⟨_, rfl⟩
   have hacs := fun (w' : World) (hb' : Below w.heap.size w w') => (Ha.out.below hb').btw hpq
   obtain ⟨Ar, cr, hsh⟩ : ∃ Ar cr, va = .slice Ar r.length cr := by
    obtain ⟨A0, c0, h0⟩ := Ha.out.shape
    rw [hva, hr]
    exact btwV_shape h0 ar _ _ hpq
   rw [← hva, ← hr] at hacs
   have hal := fun (W2 : World) (hW2 : Below w.heap.size w W2) => lettered_any (S : Int) st fi v ar (n : Int) W2 (Ha.out.below hW2) Hv.out.srt (by have := Hv.out.few; omega) (by omega) (by omega)
   unfold BtwP at hal
   rw [← hva, hsh] at hal
   rw [hsh] at hacs
   have Hal := Lib.hid hal; have Hacs := Lib.hid hacs
   have Hr := Lib.hid (show ∀ x, x ∈ r ↔ x ∈ ar ∧ x.1 = n ∧ 1 ≤ x.2.1 from fun x => by rw [hr]; exact lettered_mem Hv.out)
   have hrl : r.length ≤ 2000 := by rw [hr]; exact Nat.le_trans (btw_len _ _ _) Hv.out.few
   clear hva hr hsh hal hacs hpq
   go_wp2_with fail
   refine (Hal.out _ (KB.out _ HG.out)).mono ?_
   rintro e w5 ⟨rfl, hb5⟩
   have HO5 := Lib.hid (HO.out.kept (grown_below hb5 none) (by simp))
   have HM5 := Lib.hid (HM.out.keep fun _ _ h => h.below hb5)
   have HG5 := Lib.hid (grown_trans HG.out (grown_below hb5 _))
   clear hb5 x0 x1 x2 x3 hcell
   go_wp2_with fail
   go_loopw [24] (fun i wr => Si w1 (w.heap.size + 1) ar (fun x => x ∈ ar ∧ (∃ m ∈ L.take k, x.1 = ((m : Nat) : Int)) ∧ 1 ≤ x.2.1) k r i wr) (fun i _ => r.length - (intOf i).toNat)
   case atStart => exact ⟨0, n0, D, Nat.zero_le _, rfl, HO5.out, by omega, HM5.out.congr (by simp), HG5.out⟩
   case round =>
    obtain ⟨j, n1, D1, hj, rfl, hown, hn1, hms, hg⟩ := hrel
    have HO' := Lib.hid hown; have HM' := Lib.hid hms; have HG' := Lib.hid hg
    clear hown hms hg
    by_cases hlt2 : j < r.length
    ·obtain ⟨ad2, rfl, _, hcap2, y0, y1, y2⟩ := (Hacs.out _ (KB.out _ HG'.out)).at j hlt2
     have hxm := ((Hr.out _).1 (List.getElem_mem hlt2)).1
     have hto := Hv.out.to _ hxm
     have hlet := Hv.out.lt _ hxm
     have htk : ∀ x, x ∈ r.take (j + 1) ↔ x ∈ r.take j ∨ x = r[j] := fun x => by rw [List.take_succ_eq_append_getElem hlt2, List.mem_append, List.mem_singleton]
     obtain ⟨⟨z0, z1, z2⟩, hz⟩ : ∃ z, z = r[j] := ⟨_, rfl⟩
     rw [← hz] at y0 y1 y2 htk hto hlet
     dsimp only at y0 y1 y2 hto hlet
     have hi64 : I64 z1 := by unfold I64; omega
     have Htk2 := Lib.hid htk
     clear htk hz hxm
     obtain ⟨zn, rfl⟩ : ∃ zn : Nat, z2 = zn := ⟨z2.toNat, by omega⟩
     have hzS : zn < S := by omega
     -- the closure of where the arc leads
     have hcw := Hc.out.keep (KB.out _ HG'.out)
     obtain ⟨vz, hvz⟩ : ∃ vz, vals[zn]? = some vz := ⟨_, List.getElem?_eq_getElem (by rw [hcw.len]; exact hzS)⟩
     obtain ⟨wsz, hsz⟩ := hcw.set zn vz hzS hvz
     have hcz : wr.cell? ⟨g, zn, none⟩ = some vz := by
      rw [cell_of_row _ _ zn _ _ _ hcw.row, List.getElem?_toArray]; exact hvz
     obtain ⟨Az, cz, rfl⟩ := hsz.st.shape
     have Hcz := Lib.hid hcz; have Hsz := Lib.hid hsz
     clear hcw hcz hsz hvz
     -- what the map holds at the letter
     have hba : Below wr.heap.size wr (wr.alloc (.cells #[.int .i64 z0, .int .i64 z1, .int .i64 (zn : Int)] 52)) := (Below.refl _ _).alloc (Nat.le_refl _) _
     have hbd : Below wr.heap.size wr (wr.alloc (.cells #[.int .i64 z0, .int .i64 z1, .int .i64 (zn : Int)] 52)).drew := ⟨hba.os, hba.tape, hba.output, hba.size, hba.block⟩
     have hod : (wr.alloc (.cells #[.int .i64 z0, .int .i64 z1, .int .i64 (zn : Int)] 52)).drew.ownsMap Tryd.prog 3 Rv (w.heap.size + 1) n1 D1 := (HO'.out.alloc _).drew
     have hblk : (wr.alloc (.cells #[.int .i64 z0, .int .i64 z1, .int .i64 (zn : Int)] 52)).drew.heap[wr.heap.size]? = some (.cells #[.int .i64 z0, .int .i64 z1, .int .i64 (zn : Int)] 52 (0, 0)) := heap_alloc_new wr _
     obtain ⟨u, hlk, hat⟩ := map_lookup hod hi64
     obtain ⟨u', wsu, hat', hsu⟩ := HM'.out.at_ z1
     rw [hat] at hat'
     cases hat'
     obtain ⟨Au, cu, rfl⟩ := hsu.st.shape
     have Hbd := Lib.hid hbd; have Hod := Lib.hid hod; have Hsu := Lib.hid hsu; have Hlk := Lib.hid hlk; have Hblk := Lib.hid hblk
     have hx1 : (wr.alloc (.cells #[.int .i64 z0, .int .i64 z1, .int .i64 (zn : Int)] 52)).cell? ⟨wr.heap.size, 1, none⟩ = some (.int .i64 z1) := cell_of_row _ _ 1 _ _ _ (heap_alloc_new wr _)
     have hx2 : (wr.alloc (.cells #[.int .i64 z0, .int .i64 z1, .int .i64 (zn : Int)] 52)).cell? ⟨wr.heap.size, 2, none⟩ = some (.int .i64 (zn : Int)) := cell_of_row _ _ 2 _ _ _ (heap_alloc_new wr _)
     have hx3 : (wr.alloc (.cells #[.int .i64 z0, .int .i64 z1, .int .i64 (zn : Int)] 52)).cell? ⟨g, zn, none⟩ = some (.slice Az wsz.length cz) := by
      rw [hba.cell (World.block_lt_of_cell? _ _ Hcz.out)]; exact Hcz.out
     clear hba hbd hod hsu hat hblk
     have g0 : (0 : Int) ≤ (j : Int) := by omega
     have g1 : (j : Int) < (r.length : Int) := by omega
     have g2 : (0 : Int) ≤ (zn : Int) := by omega
     have g3 : (zn : Int) < (S : Int) := by omega
     -- the union
     have hun := union_any (.slice Au wsu.length cu) (.slice Az wsz.length cz) wsu wsz _ (Hsu.out.st.sl.below Hbd.out) (Hsz.out.st.sl.below Hbd.out) (by have := Hsu.out.len; unfold Room2; omega) (by have := Hsz.out.len; unfold Room2; omega) Hsu.out.wds Hsz.out.wds
     have Hun := Lib.hid hun; clear hun
     have Keep := Lib.hid (show ∀ w', Below (wr.heap.size + 1) (wr.alloc (.cells #[.int .i64 z0, .int .i64 z1, .int .i64 (zn : Int)] 52)).drew w' → w'.cell? ⟨wr.heap.size, 1, none⟩ = some (.int .i64 z1) ∧ w'.cell? ⟨wr.heap.size, 2, none⟩ = some (.int .i64 (zn : Int)) ∧ w'.cell? ⟨g, zn, none⟩ = some (.slice Az wsz.length cz) from fun w' h => by
      have q1 := (h.block wr.heap.size (by omega)).trans Hblk.out
      exact ⟨cell_of_row _ _ 1 _ _ _ q1, cell_of_row _ _ 2 _ _ _ q1, by rw [(Hbd.out.trans (h.mono (by omega))).cell (World.block_lt_of_cell? _ _ Hcz.out)]; exact Hcz.out⟩)
     go_wp2_with fail
     refine wp_region_noPanic ?_
     refine wp_region_held_drew (S := fun w' => w'.cell? ⟨wr.heap.size, 1, none⟩ = some (.int .i64 z1) ∧ w'.cell? ⟨wr.heap.size, 2, none⟩ = some (.int .i64 (zn : Int)) ∧ w'.cell? ⟨g, zn, none⟩ = some (.slice Az wsz.length cz)) (by kernel_rfl) ⟨hx1, hx2, hx3⟩ (fun hHeld => ?_)
     refine wpAnyH_take (i := 0) (v := ?_) rfl (by kernel_rfl) (by kernel_rfl) (by kernel_rfl) (fun _ _ _ h => h) (Or.inl ⟨by rfl, ?_⟩) hHeld ?_
     rotate_left
     focus ((intro w hSw; (try dsimp only at hSw); go_simp); try with_reducible rfl)
     try simp only [Act.put]
     refine wpAnyH_take (i := 1) (v := ?_) rfl (by kernel_rfl) (by kernel_rfl) (by kernel_rfl) (fun _ _ _ h => h) (Or.inl ⟨by rfl, ?_⟩) hHeld ?_
     rotate_left
     focus ((intro w hSw; (try dsimp only at hSw); go_simp); try with_reducible rfl)
     try simp only [Act.put]
     refine wpAnyH_take (i := 2) (v := ?_) rfl (by kernel_rfl) (by kernel_rfl) (by kernel_rfl) (fun _ _ _ h => h) (Or.inl ⟨by rfl, ?_⟩) hHeld ?_
     rotate_left
     focus ((intro w hSw; (try dsimp only at hSw); go_simp); try with_reducible rfl)
     try simp only [Act.put]
     refine wpAnyH_take (i := 3) (v := ?_) rfl (by kernel_rfl) (by kernel_rfl) (by kernel_rfl) (fun _ _ _ h => h) (Or.inl ⟨by rfl, ?_⟩) hHeld ?_
     rotate_left
     focus ((intro w hSw; (try dsimp only at hSw); go_simp); try with_reducible rfl)
     try simp only [Act.put]
     refine wpAnyH_take (i := 4) (v := ?_) rfl (by kernel_rfl) (by kernel_rfl) (by kernel_rfl) (fun _ _ _ h => h) (Or.inl ⟨by rfl, ?_⟩) hHeld ?_
     rotate_left
     focus ((intro w hSw; (try dsimp only at hSw); go_simp); try with_reducible rfl)
     try simp only [Act.put]
     refine wpAnyH_take (i := 5) (v := ?_) rfl (by kernel_rfl) (by kernel_rfl) (by kernel_rfl) (fun _ _ _ h => h) (Or.inl ⟨by rfl, ?_⟩) hHeld ?_
     rotate_left
     focus ((intro w hSw; (try dsimp only at hSw); go_simp); try with_reducible rfl)
     try simp only [Act.put]
     refine wpAnyH_take (i := 7) (v := ?_) rfl (by kernel_rfl) (by kernel_rfl) (by kernel_rfl) (fun _ _ _ h => h) (Or.inl ⟨by rfl, ?_⟩) hHeld ?_
     rotate_left
     focus ((intro w hSw; (try dsimp only at hSw); go_simp); try with_reducible rfl)
     try simp only [Act.put]
     refine wpAnyH_take (i := 8) (v := ?_) rfl (by kernel_rfl) (by kernel_rfl) (by kernel_rfl) (fun _ _ _ h => h) (Or.inl ⟨by rfl, ?_⟩) hHeld ?_
     rotate_left
     focus ((intro w hSw; (try dsimp only at hSw); go_simp); try with_reducible rfl)
     try simp only [Act.put]
     refine wpAnyH_take (i := 9) (v := ?_) rfl (by kernel_rfl) (by kernel_rfl) (by kernel_rfl) (fun _ _ _ h => h) (Or.inl ⟨by rfl, ?_⟩) hHeld ?_
     rotate_left
     focus ((intro w hSw; (try dsimp only at hSw); go_simp); try with_reducible rfl)
     try simp only [Act.put]
     refine wpAnyH_take (i := 10) (v := ?_) rfl (by kernel_rfl) (by kernel_rfl) (by kernel_rfl) (fun _ _ _ h => h) (Or.inl ⟨by rfl, ?_⟩) hHeld ?_
     rotate_left
     focus ((intro w hSw; (try dsimp only at hSw); go_simp); try with_reducible rfl)
     try simp only [Act.put]
     refine wpAnyH_take (i := 11) (v := ?_) rfl (by kernel_rfl) (by kernel_rfl) (by kernel_rfl) (fun _ _ _ h => h) (Or.inl ⟨by rfl, ?_⟩) hHeld ?_
     rotate_left
     focus ((intro w hSw; (try dsimp only at hSw); go_simp); try with_reducible rfl)
     try simp only [Act.put]
     refine wpAnyH_ready (rs := [6]) (by kernel_rfl) (by simp) ?_
     refine AllReadyH.cons rfl (fun K hK => ?_) ?_
     focus (go_simp; (try rw [Hlk.out]); refine hK.out _ _ (Keep.out _ (Below.refl _ _)) (fun hHeld => ?_); clear hK K; try simp only [Act.put])
     rotate_left
     exact AllReadyH.nil
     refine wpAnyH_ready (rs := [12]) (by kernel_rfl) (by simp) ?_
     refine AllReadyH.cons rfl (fun K hK => ?_) ?_
     focus ((go_simp; refine Hun.out.mono ?_; rintro e w7 ⟨v7, rfl, ho7, hb7⟩; have hb7' : Below (wr.heap.size + 1) (wr.alloc (.cells #[.int .i64 z0, .int .i64 z1, .int .i64 (zn : Int)] 52)).drew w7 := hb7.mono (by simp); have B7 := Lib.hid (Hbd.out.trans (hb7'.mono (by omega))); have S7 := Lib.hid (or_setis ho7 Hsu.out.wds Hsz.out.wds Hsu.out.has Hsz.out.has); have K7 := Lib.hid (Keep.out _ hb7'); obtain ⟨w9, hr9, ho9, hg9⟩ := map_store (HO'.out.kept (grown_below B7.out none) (by simp)) hi64 (by unfold maxLen; omega) v7; clear ho7 hb7 hb7'); refine hK.out _ _ K7.out (fun hHeld => ?_); clear hK K; try simp only [Act.put])
     rotate_left
     exact AllReadyH.nil
     obtain ⟨es9, cl9, hm9⟩ := map_block (HO'.out.kept (grown_below B7.out none) (by simp))
     have Hr9 := Lib.hid hr9; have HO9 := Lib.hid ho9; have HG9 := Lib.hid hg9; have HM9 := Lib.hid hm9
     clear hr9 ho9 hg9 hm9
     refine wpAnyH_ready (rs := [13]) (by kernel_rfl) (by simp) ?_
     refine AllReadyH.cons rfl (fun K hK => ?_) ?_
     focus ((go_simp; (try rw [Hr9.out])); refine hK.out _ _ ⟨HG9.out.cell K7.out.1 (fun e => cell_ne_map HM9.out K7.out.1 (Option.some.inj e)), HG9.out.cell K7.out.2.1 (fun e => cell_ne_map HM9.out K7.out.2.1 (Option.some.inj e)), HG9.out.cell K7.out.2.2 (fun e => cell_ne_map HM9.out K7.out.2.2 (Option.some.inj e))⟩ (fun hHeld => ?_); clear hK K; try simp only [Act.put])
     rotate_left
     exact AllReadyH.nil
     refine wpAnyH_done (by kernel_rfl) ?_ _
     refine NoPanic.normal ?_
     clear hHeld hx1 hx2 hx3
     go_wp2
     go_roundw
     case rel =>
      refine ⟨j + 1, n1 + 1, _, by omega, by go_num, HO9.out, by omega, ?_, grown_trans (grown_trans HG'.out (grown_below B7.out _)) HG9.out⟩
      refine MapS.congr (T := fun y => (fun x => (x ∈ ar ∧ (∃ m ∈ L.take k, x.1 = ((m : Nat) : Int)) ∧ 1 ≤ x.2.1) ∨ x ∈ r.take j) y ∨ y = (z0, z1, (zn : Int))) ?_ (fun x => ?_)
      ·exact ((HM'.out.keep fun _ _ h => h.below B7.out).put (x := (z0, z1, (zn : Int))) (map_isMap HO'.out) S7.out).keep fun _ _ h => h.grown HM9.out HG9.out
      ·rw [Htk2.out]; exact or_assoc
     case measure => simp [intOf]; omega
    ·go_wp2_with fail
     go_roundw
     case rel =>
      refine ⟨k + 1, n1, D1, by omega, by go_num, HO'.out, by omega, HM'.out.congr fun x => ?_, HG'.out⟩
      rw [show r.take j = r from List.take_of_length_le (by omega), Hr.out]
      constructor
      ·rintro (⟨h1, ⟨m, h2, h3⟩, h4⟩ | ⟨h1, h2, h3⟩)
       ·exact ⟨h1, ⟨m, (Htk.out m).2 (.inl h2), h3⟩, h4⟩
       ·exact ⟨h1, ⟨n, (Htk.out n).2 (.inr rfl), h2⟩, h3⟩
      ·rintro ⟨h1, ⟨m, h2, h3⟩, h4⟩
       rcases (Htk.out m).1 h2 with h5 | h5
       ·exact .inl ⟨h1, ⟨m, h5, h3⟩, h4⟩
       ·rw [h5] at h3; exact .inr ⟨h1, h3, h4⟩
     case measure => simp [intOf]; omega
  ·have hm2 := HM.out.congr (T' := fun x => x ∈ ar ∧ Els ws x.1 ∧ 1 ≤ x.2.1) (fun x => by
    rw [List.take_of_length_le (by omega), HL.out]
    constructor
    ·rintro ⟨h1, ⟨m, h2, h3⟩, h4⟩; exact ⟨h1, els_mem.1 ⟨m, h2, h3⟩, h4⟩
    ·rintro ⟨h1, h2, h4⟩
     obtain ⟨m, h5, h6⟩ := els_mem.2 h2
     exact ⟨h1, ⟨m, h5, h6⟩, h4⟩)
   have Hm2 := Lib.hid hm2; clear hm2
   go_wp2
   go_ret
   exact ⟨w.heap.size + 1, n0, D, rfl, by omega, HO.out, by omega, Hm2.out, KB.out _ HG.out⟩
end Go.Proofs.YtockgbilbnheaaaDoor
