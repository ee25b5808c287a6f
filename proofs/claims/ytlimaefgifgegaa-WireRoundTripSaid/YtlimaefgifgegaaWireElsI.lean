/- The readers' contracts: elements of int. -/
import Derived.Test.YtlimaefgifgegaaWireEls2
import Derived.Deep.Onto
namespace Go.Proofs.Ytlimaefgifgegaa
open Go.RowKit

theorem info_int : (Try.prog.info? 3).map (fun i => (i.zero, i.size, i.bytes)) = some (some (.int .i64 0), 1, 8) := by kernel_rfl
def iv (x : Int) : Value := .int .i64 x
def IRow (B : Nat) (w : World) (v : Value) (l : List Int) : Prop := w.ownsRow B 3 1 v l.length (l.map iv)
def RawI (w : World) (g : Nat) (A : Option Addr) (n c : Nat) (xs : List Nat) (o : Option (List Int × Nat)) (e : Ending) (w' : World) : Prop :=
  ∃ v k' fl, e = .returned v ∧ Rdr w' g A n c xs k' fl ∧ Only g w w' ∧ (match o with | some (l, k1) => IRow w.heap.size w' v l ∧ k' = k1 ∧ fl = false | none => fl = true)
def pIts (mx : Int) (xs : List Nat) (k : Nat) : Option (List Int × Nat) :=
  match pBnd 0 mx xs k with
  | some (z, k1) => pList pInt z.toNat xs k1
  | none => none
def IPost (w : World) (g : Nat) (A : Option Addr) (n c : Nat) (xs : List Nat) (z : List Int × Nat × Bool) (e : Ending) (w' : World) : Prop :=
  ∃ v, e = .returned v ∧ IRow w.heap.size w' v z.1 ∧ Rdr w' g A n c xs z.2.1 z.2.2 ∧ Only g w w'
section
variable {w : World} {g n c k : Nat} {A : Option Addr} {xs : List Nat} {fl : Bool}
theorem IRow.only {B : Nat} {w w' : World} {v : Value} {l : List Int} (h : IRow B w v l) (ho : Only g w w') (hg : g < B) : IRow B w' v l := by
  refine World.ownsRow.kept (row := some g) h ⟨ho.os, ho.tape, ho.output, ho.size, fun k hk hn => ho.block k hk (fun e => hn (by rw [e]))⟩ ?_
  rcases h.2 with ⟨rfl, _⟩ | ⟨g', cap, cur, rfl, hb, _⟩
  · exact .inl rfl
  · right
    intro e
    simp only [Value.ownBlock, Option.some.injEq] at e
    omega
theorem IRow.blk {B : Nat} {w : World} {v : Value} {l : List Int} (h : IRow B w v l) : ∀ k, v.ownBlock = some k → B ≤ k := fun k e => (World.ownsRow.lt h k e).1
theorem IRow.mono {B B' : Nat} {w : World} {v : Value} {l : List Int} (h : IRow B w v l) (hb : B' ≤ B) : IRow B' w v l := World.ownsRow.mono h hb
theorem IRow.nil (B : Nat) (w : World) : IRow B w (.slice none 0 0) [] := World.ownsRow_nil _ _ _ _
theorem cell1_new (W : World) (x : Int) (t g' : Nat) (hg : g' = W.heap.size) : ∀ j u, ([iv x] : List Value)[j]? = some u → (W.alloc (.cells #[.int .i64 x] t)).cell? ((⟨g', 0, none⟩ : Addr).add j) = some u := by
  subst hg
  intro j u hj
  have e : (⟨W.heap.size, 0, none⟩ : Addr).add j = ⟨W.heap.size, j, none⟩ := by unfold Addr.add; split <;> simp_all
  rw [e, cell_of_row _ W.heap.size j _ _ _ (heap_alloc_new W _)]
  simpa [iv] using hj
set_option maxHeartbeats 1000000 in
theorem elems_int_0 (h : Rdr w g A n c xs k fl) :
    Calls Try.prog 53 #[.pointer (some ⟨g, 0, none⟩), .int .i64 0, .func (.func 29) #[.pointer (some ⟨g, 0, none⟩)] #[]] w
      (RPost w g A n c xs (.slice none 0 0, k, fl)) := by
  have H := Lib.hid h
  clear h
  go_enter Try.func53, Try.ntmps53
  go_wp2
  go_loopw [7, 10] (fun o i wr => o = .slice none 0 0 ∧ i = .int .i64 0 ∧ wr = w) (fun _ _ _ => 0)
  case atStart => exact ⟨rfl, rfl, rfl⟩
  case round =>
    obtain ⟨rfl, rfl, rfl⟩ := hrel
    go_wp2
    go_ret
    exact ⟨rfl, H.out, Only.refl _ _⟩
set_option maxHeartbeats 2000000 in
theorem elems_int (m : Nat) (h : Rdr w g A n c xs k false) (hm : m ≤ 1000000) :
    Calls Try.prog 53 #[.pointer (some ⟨g, 0, none⟩), .int .i64 (m : Int), .func (.func 29) #[.pointer (some ⟨g, 0, none⟩)] #[]] w
      (RawI w g A n c xs (pList pInt m xs k)) := by
  have hg := h.lt
  have H := Lib.hid h
  clear h
  obtain ⟨i0, hi, hz0, hz1, hz2⟩ := info_parts info_int
  obtain ⟨R, hR⟩ : ∃ R, R = pList pInt m xs k := ⟨_, rfl⟩
  rw [← hR]
  have HR := Lib.hid hR
  clear hR
  go_enter Try.func53, Try.ntmps53
  go_wp2
  go_loopw [7, 10] (fun o i wr => ∃ (j : Nat) (l : List Int) (k' : Nat), j ≤ m ∧ i = .int .i64 j ∧ l.length = j ∧ IRow w.heap.size wr o l ∧ Rdr wr g A n c xs k' false ∧ Only g w wr ∧ R = (pList pInt (m - j) xs k').map fun r => (l ++ r.1, r.2)) (fun _ i _ => m - (intOf i).toNat)
  case atStart => exact ⟨0, [], k, Nat.zero_le _, rfl, rfl, World.ownsRow_nil _ _ _ _, H.out, Only.refl _ _, by rw [HR.out, Nat.sub_zero]; cases pList pInt m xs k <;> rfl⟩
  case round =>
    rename_i o _
    obtain ⟨j, l, k', hj, rfl, hlj, hrow, hrd, ho, hR⟩ := hrel
    have Hrow := Lib.hid hrow; have Hrd := Lib.hid hrd; have Ho := Lib.hid ho; have HRR := Lib.hid hR; have Hlj := Lib.hid hlj
    clear hrow hrd ho hR hlj
    by_cases hlt : j < m
    · have hms : m - j = (m - (j + 1)) + 1 := by omega
      cases hp : pInt xs k' with
      | none =>
        have hnone : R = none := by rw [HRR.out, hms, pList_none hp]; rfl
        have hv := int_any Hrd.out
        rw [hp, out_none rfl] at hv
        have Hn := Lib.hid hnone
        clear hnone hp
        go_wp2_with fail
        refine hv.mono ?_
        rintro e w1 ⟨rfl, hR1, ho1⟩
        replace hR1 : Rdr w1 g A n c xs k' true := hR1
        have d2 := hR1.cell 2
        have HR1 := Lib.hid hR1; have Ho1 := Lib.hid (Ho.out.trans ho1)
        clear hR1 ho1 hv
        unfold ival
        go_wp2
        go_ret
        exact ⟨_, _, _, rfl, HR1.out, Ho1.out, by rw [Hn.out]⟩
      | some p =>
        obtain ⟨x, k1⟩ := p
        have hnext : R = (pList pInt (m - (j + 1)) xs k1).map fun r => ((l ++ [x]) ++ r.1, r.2) := by
          rw [HRR.out, hms, pList_some hp, Option.map_map]
          congr 1
          funext r
          simp
        have hv := int_any Hrd.out
        rw [hp, out_some rfl] at hv
        have Hn := Lib.hid hnext
        clear hnext hp
        go_wp2_with fail
        refine hv.mono ?_
        rintro e w1 ⟨rfl, hR1, ho1⟩
        replace hR1 : Rdr w1 g A n c xs k1 false := hR1
        have hrow1 := Hrow.out.only ho1 hg
        have d2 := hR1.cell 2
        have hB1 : w.heap.size ≤ w1.heap.size := (Ho.out.trans ho1).size
        have HR1 := Lib.hid hR1; have Ho1 := Lib.hid (Ho.out.trans ho1); have Hrow1 := Lib.hid hrow1; have HB1 := Lib.hid hB1
        clear hR1 ho1 hv hrow1 hB1
        unfold ival
        have hl2 : (l.map iv).length = l.length * 1 := by simp
        go_wp2_with (at_builtin; refine wpList_append_own _ rfl _ _ 22 rfl w.heap.size 3 i0 _ 1 8 (by kernel_rfl) hi hz0 hz1 hz2 rfl (by decide) _ l.length (l.map iv) rfl (Hrow1.out.alloc _) ⟨w1.heap.size, 0, none⟩ 1 1 [iv x] rfl rfl (cell1_new _ _ _ _ rfl) (by intro u hu; simp [iv] at hu; subst hu; rfl) (by have := Hlj.out; unfold maxLen; omega) (by have := Hlj.out; omega) (by have := HB1.out; simp; omega) ?_; intro v' w2 hown2 hgr _)
        have hA2 := (Below.refl w1.heap.size w1).alloc (Nat.le_refl _) (.cells #[.int .i64 x] 3)
        have HR2 := Lib.hid ((HR1.out.below hA2).grown H.out.old hg hgr Hrow1.out.blk)
        have HO2 := Lib.hid ((Ho1.out.below hA2).grown hgr (Nat.le_refl _) Hrow1.out.blk)
        have HV2 : Hid (IRow w.heap.size w2 v' (l ++ [x])) := by
          show w2.ownsRow _ _ _ _ _ _
          rw [List.map_append, List.length_append, List.length_singleton]
          exact hown2
        clear hgr hown2 hA2
        go_roundw
        case rel => exact ⟨j + 1, l ++ [x], k1, by omega, by go_num, by rw [List.length_append, Hlj.out]; rfl, HV2.out, HR2.out, HO2.out, Hn.out⟩
        case measure => simp [intOf]; omega
    · obtain rfl : j = m := by omega
      go_wp2
      go_ret
      refine ⟨_, _, _, rfl, Hrd.out, Ho.out, ?_⟩
      have e : R = some (l, k') := by rw [HRR.out, Nat.sub_self]; simp [pList]
      rw [e]
      exact ⟨Hrow.out, rfl, rfl⟩
/-- ints(m), the reader's method. -/
theorem ints_m (m : Nat) (h : Rdr w g A n c xs k false) (hm : m ≤ 1000000) :
    Calls Try.prog 36 #[.pointer (some ⟨g, 0, none⟩), .int .i64 (m : Int)] w (RawI w g A n c xs (pList pInt m xs k)) := by
  have H := Lib.hid h
  clear h
  go_enter Try.func36, Try.ntmps36
  go_wp2_with fail
  refine (elems_int m H.out hm).mono ?_
  rintro e w1 ⟨v, k', fl, rfl, hR, ho, hm⟩
  have HR := Lib.hid hR; have Ho := Lib.hid ho; have Hm := Lib.hid hm
  clear hR ho hm
  go_wp2
  go_ret
  exact ⟨v, k', fl, rfl, HR.out, Ho.out, Hm.out⟩
theorem ints_0 (h : Rdr w g A n c xs k fl) :
    Calls Try.prog 36 #[.pointer (some ⟨g, 0, none⟩), .int .i64 0] w (RPost w g A n c xs (.slice none 0 0, k, fl)) := by
  have H := Lib.hid h
  clear h
  go_enter Try.func36, Try.ntmps36
  go_wp2_with fail
  refine (elems_int_0 H.out).mono ?_
  rintro e w1 ⟨rfl, hR, ho⟩
  have HR := Lib.hid hR; have Ho := Lib.hid ho
  clear hR ho
  go_wp2
  go_ret
  exact ⟨rfl, HR.out, Ho.out⟩
set_option maxHeartbeats 1000000 in
theorem clos_ints_1 (mx : Int) (p q r : Nat) (h : Rdr w g A n c xs k false) (hc : Caps w g p q r (.func (.func 36) #[.pointer (some ⟨g, 0, none⟩)] #[]) 35 32 3 mx) (m k1 : Nat) (e : pBnd 0 mx xs k = some ((m : Int), k1)) (hm : m ≤ 1000000) : Calls Try.prog 52 #[.pointer (some ⟨p, 0, none⟩), .pointer (some ⟨q, 0, none⟩), .pointer (some ⟨r, 0, none⟩)] w (RawI w g A n c xs (pIts mx xs k)) := by
  have a0 := cell_of_row w p 0 _ _ _ hc.hp
  have a1 := cell_of_row w q 0 _ _ _ hc.hq
  have a2 := cell_of_row w r 0 _ _ _ hc.hr
  have HD : Hid (Rdr w.drew g A n c xs k false) := Lib.hid h.drew
  clear h
  have Keep := Lib.hid (show ∀ w', Only g w w' → w'.cell? ⟨p, 0, none⟩ = some (.func (.func 36) #[.pointer (some ⟨g, 0, none⟩)] #[]) ∧ w'.cell? ⟨q, 0, none⟩ = some (.pointer (some ⟨g, 0, none⟩)) ∧ w'.cell? ⟨r, 0, none⟩ = some (.int .i64 mx) from fun w' ho => by
    have h := hc.only ho
    exact ⟨cell_of_row w' p 0 _ _ _ h.hp, cell_of_row w' q 0 _ _ _ h.hq, cell_of_row w' r 0 _ _ _ h.hr⟩)
  clear hc
  have He := Lib.hid e; clear e
  go_enter Try.func52, Try.ntmps52
  go_wp2_with fail
  go_region_held3 (fun w' => w'.cell? ⟨p, 0, none⟩ = some (.func (.func 36) #[.pointer (some ⟨g, 0, none⟩)] #[]) ∧ w'.cell? ⟨q, 0, none⟩ = some (.pointer (some ⟨g, 0, none⟩)) ∧ w'.cell? ⟨r, 0, none⟩ = some (.int .i64 mx))
    (first | (exact Keep.out _ ho2) | (exact Keep.out _ ho1) | (exact Keep.out _ (Only.refl _ _).drew))
    (first
      | (go_at_call 17; refine (bnd_some HD.out He.out).mono ?_; rintro e w1 ⟨rfl, hR1, ho1'⟩; have ho1 := (Only.refl g w).drew.trans ho1'; have HR1 := Lib.hid hR1)
      | (go_at_call 36; refine (ints_m m HR1.out hm).mono ?_; rintro e w2 ⟨v2, k2, fl2, rfl, hR2, ho2', hm2⟩; have ho2 := ho1.trans ho2'; have HR2 := Lib.hid hR2; have Hm2 := Lib.hid hm2; have Hsz := Lib.hid ho1.size))
  have Ho2 := Lib.hid ho2
  clear hm2
  go_wp2
  go_ret
  refine ⟨_, _, _, rfl, HR2.out, Ho2.out, ?_⟩
  have hm2 := Hm2.out
  unfold pIts
  rw [He.out]
  simp only [Int.toNat_natCast]
  cases hp : pList pInt m xs k1 with
  | none => rw [hp] at hm2; exact hm2
  | some o =>
    obtain ⟨l, k3⟩ := o
    rw [hp] at hm2
    exact ⟨hm2.1.mono Hsz.out, hm2.2⟩
set_option maxHeartbeats 1000000 in
theorem clos_ints_3 (mx : Int) (p q r : Nat) (h : Rdr w g A n c xs k false) (hc : Caps w g p q r (.func (.func 36) #[.pointer (some ⟨g, 0, none⟩)] #[]) 35 32 3 mx) (e : pBnd 0 mx xs k = none) : Calls Try.prog 52 #[.pointer (some ⟨p, 0, none⟩), .pointer (some ⟨q, 0, none⟩), .pointer (some ⟨r, 0, none⟩)] w (RawI w g A n c xs (pIts mx xs k)) := by
  have a0 := cell_of_row w p 0 _ _ _ hc.hp
  have a1 := cell_of_row w q 0 _ _ _ hc.hq
  have a2 := cell_of_row w r 0 _ _ _ hc.hr
  have HD : Hid (Rdr w.drew g A n c xs k false) := Lib.hid h.drew
  clear h
  have Keep := Lib.hid (show ∀ w', Only g w w' → w'.cell? ⟨p, 0, none⟩ = some (.func (.func 36) #[.pointer (some ⟨g, 0, none⟩)] #[]) ∧ w'.cell? ⟨q, 0, none⟩ = some (.pointer (some ⟨g, 0, none⟩)) ∧ w'.cell? ⟨r, 0, none⟩ = some (.int .i64 mx) from fun w' ho => by
    have h := hc.only ho
    exact ⟨cell_of_row w' p 0 _ _ _ h.hp, cell_of_row w' q 0 _ _ _ h.hq, cell_of_row w' r 0 _ _ _ h.hr⟩)
  clear hc
  have He := Lib.hid e; clear e
  go_enter Try.func52, Try.ntmps52
  go_wp2_with fail
  go_region_held3 (fun w' => w'.cell? ⟨p, 0, none⟩ = some (.func (.func 36) #[.pointer (some ⟨g, 0, none⟩)] #[]) ∧ w'.cell? ⟨q, 0, none⟩ = some (.pointer (some ⟨g, 0, none⟩)) ∧ w'.cell? ⟨r, 0, none⟩ = some (.int .i64 mx))
    (first | (exact Keep.out _ ho2) | (exact Keep.out _ ho1) | (exact Keep.out _ (Only.refl _ _).drew))
    (first
      | (go_at_call 17; refine (bnd_fail HD.out He.out).mono ?_; rintro e w1 ⟨rfl, hR1, ho1'⟩; have ho1 := (Only.refl g w).drew.trans ho1'; have HR1 := Lib.hid hR1)
      | (go_at_call 36; refine (ints_0 HR1.out).mono ?_; rintro e w2 ⟨rfl, hR2, ho2'⟩; have ho2 := ho1.trans ho2'; have HR2 := Lib.hid hR2))
  have Ho2 := Lib.hid ho2
  go_wp2
  go_ret
  refine ⟨_, _, _, rfl, HR2.out, Ho2.out, ?_⟩
  unfold pIts
  rw [He.out]
theorem clos_ints (mx : Int) (p q r : Nat) (h : Rdr w g A n c xs k false) (hc : Caps w g p q r (.func (.func 36) #[.pointer (some ⟨g, 0, none⟩)] #[]) 35 32 3 mx) (hmx : mx ≤ 1000000) : Calls Try.prog 52 #[.pointer (some ⟨p, 0, none⟩), .pointer (some ⟨q, 0, none⟩), .pointer (some ⟨r, 0, none⟩)] w (RawI w g A n c xs (pIts mx xs k)) := by
  cases e : pBnd 0 mx xs k with
  | none => exact clos_ints_3 mx p q r h hc e
  | some o =>
    obtain ⟨z, k1⟩ := o
    have hz := pBnd_some e
    obtain ⟨m, rfl⟩ : ∃ m : Nat, z = (m : Int) := ⟨z.toNat, by omega⟩
    exact clos_ints_1 mx p q r h hc m k1 e (by omega)

set_option maxHeartbeats 1000000 in
theorem whole_ints (mx : Int) (p q r : Nat) (h : Rdr w g A n c xs k fl) (hc : Caps w g p q r (.func (.func 36) #[.pointer (some ⟨g, 0, none⟩)] #[]) 35 32 3 mx) (hmx : mx ≤ 1000000) :
    Calls Try.prog 51 #[.pointer (some ⟨g, 0, none⟩), .func (.func 52) #[] #[.pointer (some ⟨p, 0, none⟩), .pointer (some ⟨q, 0, none⟩), .pointer (some ⟨r, 0, none⟩)]] w
      (IPost w g A n c xs (out [] fl k (pIts mx xs k))) := by
  have hof := h.off
  have hg := h.lt
  cases fl with
  | true =>
    rw [out_true]
    have H := Lib.hid h; clear h
    go_enter Try.func51, Try.ntmps51
    go_wp2_with (go_at_call 37; refine (stopped_any H.out).mono ?_; rintro e w' ⟨rfl, rfl⟩)
    go_ret
    exact ⟨_, rfl, IRow.nil _ _, H.out, Only.refl _ _⟩
  | false =>
    have c1 := h.cell 1
    have H := Lib.hid h; clear h
    have HC := Lib.hid hc; clear hc
    go_enter Try.func51, Try.ntmps51
    go_wp2_with (go_at_call 37; refine (stopped_any H.out).mono ?_; rintro e w' ⟨rfl, rfl⟩)
    refine (clos_ints mx p q r H.out HC.out hmx).mono ?_
    rintro e w1 ⟨s, k', fl', rfl, hR, ho, hm⟩
    have d2 := hR.cell 2
    have f1 := hR.free 1
    have d1 := hR.cell 1
    have HR := Lib.hid hR; have Ho := Lib.hid ho
    clear hR ho c1
    cases hp : pIts mx xs k with
    | some o =>
      obtain ⟨t, k1⟩ := o
      rw [hp] at hm
      obtain ⟨hv, rfl, rfl⟩ := hm
      have Hp := Lib.hid hp; have Hv := Lib.hid hv; clear hp hv
      go_wp2
      go_ret
      rw [out_some Hp.out]
      exact ⟨_, rfl, Hv.out, HR.out, Ho.out⟩
    | none =>
      rw [hp] at hm
      simp only at hm
      subst hm
      have Hp := Lib.hid hp; clear hp
      go_wp2
      go_ret
      rw [out_none Hp.out]
      exact ⟨_, rfl, IRow.nil _ _, HR.out.go k hof, Ho.out.set 1 _⟩

theorem IPost.base {w w0 : World} {z : List Int × Nat × Bool} {e : Ending} {w' : World} (h : IPost w g A n c xs z e w') (ho : Only g w0 w) : IPost w0 g A n c xs z e w' :=
  let ⟨v, he, hv, hr, h2⟩ := h
  ⟨v, he, hv.mono ho.size, hr, ho.trans h2⟩
theorem part_ints (mx : Int) (h : Rdr w g A n c xs k fl) (hmx : mx ≤ 1000000) :
    Calls Try.prog 35 #[.pointer (some ⟨g, 0, none⟩), .int .i64 mx, .func (.func 36) #[.pointer (some ⟨g, 0, none⟩)] #[]] w (IPost w g A n c xs (out [] fl k (pIts mx xs k))) := by
  have hg := h.lt
  have H := Lib.hid h; clear h
  go_enter Try.func35, Try.ntmps35
  go_wp2_with fail
  have hbel : Below w.heap.size w (((w.alloc (.cells #[.pointer (some ⟨g, 0, none⟩)] 32)).alloc (.cells #[.int .i64 mx] 3)).alloc (.cells #[.func (.func 36) #[.pointer (some ⟨g, 0, none⟩)] #[]] 35)) :=
    (((Below.refl _ w).alloc (Nat.le_refl _) _).alloc (by simp) _).alloc (by simp; omega) _
  obtain ⟨p0, p1, p2⟩ := heap_alloc_3 w (.cells #[.pointer (some ⟨g, 0, none⟩)] 32) (.cells #[.int .i64 mx] 3) (.cells #[.func (.func 36) #[.pointer (some ⟨g, 0, none⟩)] #[]] 35)
  refine (whole_ints mx (w.heap.size + 1 + 1) w.heap.size (w.heap.size + 1) (H.out.below hbel) ⟨p2, p0, p1, by omega, by omega, by omega⟩ hmx).mono ?_
  intro e w1 hp
  obtain ⟨v, rfl, hv, hR, ho⟩ := hp.base ((Only.refl g w).below hbel)
  have HR := Lib.hid hR; have Hv := Lib.hid hv; have Ho := Lib.hid ho
  clear hR ho hv hp hbel p0 p1 p2
  go_wp2
  go_ret
  exact ⟨_, rfl, Hv.out, HR.out, Ho.out⟩
theorem ints_any (mx : Int) (h : Rdr w g A n c xs k fl) (hmx : mx ≤ 1000000) :
    Calls Try.prog 16 #[.pointer (some ⟨g, 0, none⟩), .int .i64 mx] w (IPost w g A n c xs (out [] fl k (pIts mx xs k))) := by
  have H := Lib.hid h; clear h
  go_enter Try.func16, Try.ntmps16
  go_wp2_with fail
  refine (part_ints mx H.out hmx).mono ?_
  rintro e w1 ⟨v, rfl, hv, hR, ho⟩
  have HR := Lib.hid hR; have Ho := Lib.hid ho; have Hv := Lib.hid hv
  clear hR ho hv
  go_wp2
  go_ret
  exact ⟨_, rfl, Hv.out, HR.out, Ho.out⟩
end
end Go.Proofs.Ytlimaefgifgegaa
