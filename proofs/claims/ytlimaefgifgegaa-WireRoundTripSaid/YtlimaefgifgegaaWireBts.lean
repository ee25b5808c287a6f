/- The readers' contracts: byte strings. -/
import Derived.Test.YtlimaefgifgegaaWireElsI
import Derived.Test.YtlimaefgifgegaaWireNew
namespace Go.Proofs.Ytlimaefgifgegaa
open Go.RowKit

def BRow (B : Nat) (w : World) (v : Value) (l : List Nat) : Prop := w.ownsRow B 5 1 v l.length (l.map bv)
def BPost (w : World) (g : Nat) (A : Option Addr) (n c : Nat) (xs : List Nat) (z : List Nat × Nat × Bool) (e : Ending) (w' : World) : Prop :=
  ∃ v, e = .returned v ∧ BRow w.heap.size w' v z.1 ∧ Rdr w' g A n c xs z.2.1 z.2.2 ∧ Only g w w'
def RawB (w : World) (g : Nat) (A : Option Addr) (n c : Nat) (xs : List Nat) (o : Option (List Nat × Nat)) (e : Ending) (w' : World) : Prop :=
  ∃ v k' fl, e = .returned v ∧ Rdr w' g A n c xs k' fl ∧ Only g w w' ∧ (match o with | some (l, k1) => BRow w.heap.size w' v l ∧ k' = k1 ∧ fl = false | none => fl = true)
def pBytes (mx : Int) (xs : List Nat) (k : Nat) : Option (List Nat × Nat) := (pPart mx xs k).map fun p => ((xs.drop p.1).take p.2, p.1 + p.2)
theorem BRow.mono {B B' : Nat} {w : World} {v : Value} {l : List Nat} (h : BRow B w v l) (hb : B' ≤ B) : BRow B' w v l := World.ownsRow.mono h hb
theorem BRow.nil (B : Nat) (w : World) : BRow B w (.slice none 0 0) [] := World.ownsRow_nil _ _ _ _

set_option maxHeartbeats 400000 in
theorem clone_sl (v : Value) (ys : List Nat) (w : World) (hx : Sl w v ys) (hr : Room2 ys.length) : Calls Try.prog 34 #[v] w fun e w' => ∃ v', e = .returned v' ∧ BRow w.heap.size w' v' ys ∧ Below w.heap.size w w' := by
  have heq := fun (w : World) (A : Option Addr) (n c : Nat) => Lib.run_eql_slice_nil (P := Try.prog) w 24 5 A n c 0 0 Try.underlying24
  obtain ⟨A, m, d, rfl, rfl, hmd, hb⟩ := hx
  cases A with
  | none =>
    obtain rfl : ys = [] := by rcases hb with h | ⟨ad, hA, _⟩; exact h; cases hA
    clear hb
    go_enter Try.func34, Try.ntmps34
    go_wp2
    go_ret
    exact ⟨_, rfl, BRow.nil _ _, Below.refl _ _⟩
  | some ad =>
    obtain ⟨i0, hi, hz0, hz1, hz2⟩ := info_parts info_u8
    have hown := World.ownsRow_made (e := 5) (size := 1) w #[] 0 (Nat.le_refl _) (by decide) rfl
    have hcells : ∀ j u, (ys.map bv)[j]? = some u → (w.alloc (.cells #[] 5)).cell? (ad.add j) = some u := by
      intro j u hu
      rw [List.getElem?_map] at hu
      cases hj : ys[j]? with
      | none => rw [hj] at hu; cases hu
      | some b =>
        rw [hj] at hu
        rcases hb with rfl | ⟨ad', hA, hcell⟩
        · simp at hj
        · cases hA
          have hw := hcell j b hj
          rw [World.cell?_alloc_lt _ _ _ (World.block_lt_of_cell? _ _ hw), hw]
          exact hu
    have Hc := Lib.hid hcells
    have Hr := Lib.hid hr
    clear hcells hb hr
    go_enter Try.func34, Try.ntmps34
    go_wp2_with (at_builtin; refine wpList_append_own _ rfl _ _ 24 rfl w.heap.size 5 i0 (.int .u8 0) 1 1 Try.underlying24 hi hz0 hz1 hz2 rfl (by decide) _ _ _ rfl hown ad ys.length d (ys.map bv) rfl (by simp) Hc.out (bv_one ys) (by have := Hr.out; unfold Room2 at this; unfold maxLen; omega) (by have := Hr.out; unfold Room2 at this; omega) (by simp) ?_; intro v' w1 hown1 hg1 _)
    go_ret
    have hbel : Below w.heap.size w w1 := ((Below.refl _ w).alloc (Nat.le_refl _) _).grown hg1 (by simp) (fun k hk => (hown.lt k hk).1)
    refine ⟨v', rfl, ?_, hbel⟩
    show w1.ownsRow _ _ _ _ _ _
    simpa using hown1
section
variable {w : World} {g n c k : Nat} {A : Option Addr} {xs : List Nat} {fl : Bool}
theorem bytes_ok (m : Nat) (h : Rdr w g A n c xs k fl) (hm : m ≤ n - k) :
    Calls Try.prog 42 #[.pointer (some ⟨g, 0, none⟩), .int .i64 (m : Int)] w (BPost w g A n c xs ((xs.drop k).take m, k + m, fl)) := by
  have hroom := h.room
  have hlen := h.len
  have H := Lib.hid h; clear h
  go_enter Try.func42, Try.ntmps42
  go_wp2_with fail
  refine (take_ok m H.out hm).mono ?_
  rintro e w1 ⟨v, rfl, hsl, hR, ho⟩
  have HR := Lib.hid hR; have Ho := Lib.hid ho; have Hsl := Lib.hid hsl
  clear hR ho hsl
  go_wp2_with fail
  refine (clone_sl v _ w1 Hsl.out (Room2.dn hroom (by rw [List.length_take, List.length_drop]; omega))).mono ?_
  rintro e w2 ⟨v2, rfl, hv, hb⟩
  have HV := Lib.hid (hv.mono Ho.out.size); have HR2 := Lib.hid (HR.out.below hb); have Ho2 := Lib.hid (Ho.out.below hb)
  clear hv hb
  go_wp2
  go_ret
  exact ⟨v2, rfl, HV.out, HR2.out, Ho2.out⟩
theorem bytes_no (m : Nat) (h : Rdr w g A n c xs k fl) (hm : n - k < m) (hm2 : m ≤ 9223372036854775807) :
    Calls Try.prog 42 #[.pointer (some ⟨g, 0, none⟩), .int .i64 (m : Int)] w (BPost w g A n c xs ([], k, true)) := by
  have H := Lib.hid h; clear h
  go_enter Try.func42, Try.ntmps42
  go_wp2_with fail
  refine (take_no m H.out hm hm2).mono ?_
  rintro e w1 ⟨v, rfl, hsl, hR, ho⟩
  have HR := Lib.hid hR; have Ho := Lib.hid ho; have Hsl := Lib.hid hsl
  clear hR ho hsl
  go_wp2_with fail
  refine (clone_sl v _ w1 Hsl.out (by unfold Room2; decide)).mono ?_
  rintro e w2 ⟨v2, rfl, hv, hb⟩
  have HV := Lib.hid (hv.mono Ho.out.size); have HR2 := Lib.hid (HR.out.below hb); have Ho2 := Lib.hid (Ho.out.below hb)
  clear hv hb
  go_wp2
  go_ret
  exact ⟨v2, rfl, HV.out, HR2.out, Ho2.out⟩
set_option maxHeartbeats 1000000 in
theorem clos_bytes_1 (mx : Int) (p q r : Nat) (h : Rdr w g A n c xs k false) (hc : Caps w g p q r (.func (.func 42) #[.pointer (some ⟨g, 0, none⟩)] #[]) 38 32 3 mx) (m k1 : Nat) (e : pBnd 0 mx xs k = some ((m : Int), k1)) (hm : m ≤ n - k1) : Calls Try.prog 58 #[.pointer (some ⟨p, 0, none⟩), .pointer (some ⟨q, 0, none⟩), .pointer (some ⟨r, 0, none⟩)] w (RawB w g A n c xs (pBytes mx xs k)) := by
  have a0 := cell_of_row w p 0 _ _ _ hc.hp
  have a1 := cell_of_row w q 0 _ _ _ hc.hq
  have a2 := cell_of_row w r 0 _ _ _ hc.hr
  have HD : Hid (Rdr w.drew g A n c xs k false) := Lib.hid h.drew
  clear h
  have Keep := Lib.hid (show ∀ w', Only g w w' → w'.cell? ⟨p, 0, none⟩ = some (.func (.func 42) #[.pointer (some ⟨g, 0, none⟩)] #[]) ∧ w'.cell? ⟨q, 0, none⟩ = some (.pointer (some ⟨g, 0, none⟩)) ∧ w'.cell? ⟨r, 0, none⟩ = some (.int .i64 mx) from fun w' ho => by
    have h := hc.only ho
    exact ⟨cell_of_row w' p 0 _ _ _ h.hp, cell_of_row w' q 0 _ _ _ h.hq, cell_of_row w' r 0 _ _ _ h.hr⟩)
  clear hc
  have He := Lib.hid e; clear e
  go_enter Try.func58, Try.ntmps58
  go_wp2_with fail
  go_region_held3 (fun w' => w'.cell? ⟨p, 0, none⟩ = some (.func (.func 42) #[.pointer (some ⟨g, 0, none⟩)] #[]) ∧ w'.cell? ⟨q, 0, none⟩ = some (.pointer (some ⟨g, 0, none⟩)) ∧ w'.cell? ⟨r, 0, none⟩ = some (.int .i64 mx))
    (first | (exact Keep.out _ ho2) | (exact Keep.out _ ho1) | (exact Keep.out _ (Only.refl _ _).drew))
    (first
      | (go_at_call 17; refine (bnd_some HD.out He.out).mono ?_; rintro e w1 ⟨rfl, hR1, ho1'⟩; have ho1 := (Only.refl g w).drew.trans ho1'; have HR1 := Lib.hid hR1)
      | (go_at_call 42; refine (bytes_ok m HR1.out hm).mono ?_; rintro e w2 ⟨v2, rfl, hm2, hR2, ho2'⟩; have ho2 := ho1.trans ho2'; have HR2 := Lib.hid hR2; have Hm2 := Lib.hid hm2; have Hsz := Lib.hid ho1.size))
  have Ho2 := Lib.hid ho2
  clear hm2
  go_wp2
  go_ret
  refine ⟨_, _, _, rfl, HR2.out, Ho2.out, ?_⟩
  have hm2 := Hm2.out
  have hl := HR2.out.len
  unfold pBytes pPart
  rw [He.out]
  simp only [Int.toNat_natCast]
  rw [if_pos (by omega)]
  exact ⟨hm2.mono Hsz.out, rfl, trivial⟩
set_option maxHeartbeats 1000000 in
theorem clos_bytes_2 (mx : Int) (p q r : Nat) (h : Rdr w g A n c xs k false) (hc : Caps w g p q r (.func (.func 42) #[.pointer (some ⟨g, 0, none⟩)] #[]) 38 32 3 mx) (m k1 : Nat) (e : pBnd 0 mx xs k = some ((m : Int), k1)) (hm : n - k1 < m) (hmb : m ≤ 9223372036854775807) : Calls Try.prog 58 #[.pointer (some ⟨p, 0, none⟩), .pointer (some ⟨q, 0, none⟩), .pointer (some ⟨r, 0, none⟩)] w (RawB w g A n c xs (pBytes mx xs k)) := by
  have a0 := cell_of_row w p 0 _ _ _ hc.hp
  have a1 := cell_of_row w q 0 _ _ _ hc.hq
  have a2 := cell_of_row w r 0 _ _ _ hc.hr
  have HD : Hid (Rdr w.drew g A n c xs k false) := Lib.hid h.drew
  clear h
  have Keep := Lib.hid (show ∀ w', Only g w w' → w'.cell? ⟨p, 0, none⟩ = some (.func (.func 42) #[.pointer (some ⟨g, 0, none⟩)] #[]) ∧ w'.cell? ⟨q, 0, none⟩ = some (.pointer (some ⟨g, 0, none⟩)) ∧ w'.cell? ⟨r, 0, none⟩ = some (.int .i64 mx) from fun w' ho => by
    have h := hc.only ho
    exact ⟨cell_of_row w' p 0 _ _ _ h.hp, cell_of_row w' q 0 _ _ _ h.hq, cell_of_row w' r 0 _ _ _ h.hr⟩)
  clear hc
  have He := Lib.hid e; clear e
  go_enter Try.func58, Try.ntmps58
  go_wp2_with fail
  go_region_held3 (fun w' => w'.cell? ⟨p, 0, none⟩ = some (.func (.func 42) #[.pointer (some ⟨g, 0, none⟩)] #[]) ∧ w'.cell? ⟨q, 0, none⟩ = some (.pointer (some ⟨g, 0, none⟩)) ∧ w'.cell? ⟨r, 0, none⟩ = some (.int .i64 mx))
    (first | (exact Keep.out _ ho2) | (exact Keep.out _ ho1) | (exact Keep.out _ (Only.refl _ _).drew))
    (first
      | (go_at_call 17; refine (bnd_some HD.out He.out).mono ?_; rintro e w1 ⟨rfl, hR1, ho1'⟩; have ho1 := (Only.refl g w).drew.trans ho1'; have HR1 := Lib.hid hR1)
      | (go_at_call 42; refine (bytes_no m HR1.out hm hmb).mono ?_; rintro e w2 ⟨v2, rfl, hm2, hR2, ho2'⟩; have ho2 := ho1.trans ho2'; have HR2 := Lib.hid hR2; clear hm2))
  have Ho2 := Lib.hid ho2
  go_wp2
  go_ret
  refine ⟨_, _, _, rfl, HR2.out, Ho2.out, ?_⟩
  have hl := HR2.out.len
  unfold pBytes pPart
  rw [He.out]
  simp only [Int.toNat_natCast]
  rw [if_neg (by omega)]
  exact trivial
set_option maxHeartbeats 1000000 in
theorem clos_bytes_3 (mx : Int) (p q r : Nat) (h : Rdr w g A n c xs k false) (hc : Caps w g p q r (.func (.func 42) #[.pointer (some ⟨g, 0, none⟩)] #[]) 38 32 3 mx) (e : pBnd 0 mx xs k = none) : Calls Try.prog 58 #[.pointer (some ⟨p, 0, none⟩), .pointer (some ⟨q, 0, none⟩), .pointer (some ⟨r, 0, none⟩)] w (RawB w g A n c xs (pBytes mx xs k)) := by
  have a0 := cell_of_row w p 0 _ _ _ hc.hp
  have a1 := cell_of_row w q 0 _ _ _ hc.hq
  have a2 := cell_of_row w r 0 _ _ _ hc.hr
  have HD : Hid (Rdr w.drew g A n c xs k false) := Lib.hid h.drew
  clear h
  have Keep := Lib.hid (show ∀ w', Only g w w' → w'.cell? ⟨p, 0, none⟩ = some (.func (.func 42) #[.pointer (some ⟨g, 0, none⟩)] #[]) ∧ w'.cell? ⟨q, 0, none⟩ = some (.pointer (some ⟨g, 0, none⟩)) ∧ w'.cell? ⟨r, 0, none⟩ = some (.int .i64 mx) from fun w' ho => by
    have h := hc.only ho
    exact ⟨cell_of_row w' p 0 _ _ _ h.hp, cell_of_row w' q 0 _ _ _ h.hq, cell_of_row w' r 0 _ _ _ h.hr⟩)
  clear hc
  have He := Lib.hid e; clear e
  go_enter Try.func58, Try.ntmps58
  go_wp2_with fail
  go_region_held3 (fun w' => w'.cell? ⟨p, 0, none⟩ = some (.func (.func 42) #[.pointer (some ⟨g, 0, none⟩)] #[]) ∧ w'.cell? ⟨q, 0, none⟩ = some (.pointer (some ⟨g, 0, none⟩)) ∧ w'.cell? ⟨r, 0, none⟩ = some (.int .i64 mx))
    (first | (exact Keep.out _ ho2) | (exact Keep.out _ ho1) | (exact Keep.out _ (Only.refl _ _).drew))
    (first
      | (go_at_call 17; refine (bnd_fail HD.out He.out).mono ?_; rintro e w1 ⟨rfl, hR1, ho1'⟩; have ho1 := (Only.refl g w).drew.trans ho1'; have HR1 := Lib.hid hR1)
      | (go_at_call 42; refine (bytes_ok 0 HR1.out (Nat.zero_le _)).mono ?_; rintro e w2 ⟨v2, rfl, hm2, hR2, ho2'⟩; clear hm2; have ho2 := ho1.trans ho2'; have HR2 := Lib.hid hR2))
  have Ho2 := Lib.hid ho2
  go_wp2
  go_ret
  refine ⟨_, _, _, rfl, HR2.out, Ho2.out, ?_⟩
  unfold pBytes pPart
  rw [He.out]
  exact rfl
theorem clos_bytes (mx : Int) (p q r : Nat) (h : Rdr w g A n c xs k false) (hc : Caps w g p q r (.func (.func 42) #[.pointer (some ⟨g, 0, none⟩)] #[]) 38 32 3 mx) (hmx : mx ≤ 9223372036854775807) : Calls Try.prog 58 #[.pointer (some ⟨p, 0, none⟩), .pointer (some ⟨q, 0, none⟩), .pointer (some ⟨r, 0, none⟩)] w (RawB w g A n c xs (pBytes mx xs k)) := by
  cases e : pBnd 0 mx xs k with
  | none => exact clos_bytes_3 mx p q r h hc e
  | some o =>
    obtain ⟨z, k1⟩ := o
    have hz := pBnd_some e
    obtain ⟨m, rfl⟩ : ∃ m : Nat, z = (m : Int) := ⟨z.toNat, by omega⟩
    by_cases hq : m ≤ n - k1
    · exact clos_bytes_1 mx p q r h hc m k1 e hq
    · exact clos_bytes_2 mx p q r h hc m k1 e (by omega) (by omega)

set_option maxHeartbeats 1000000 in
theorem whole_bytes (mx : Int) (p q r : Nat) (h : Rdr w g A n c xs k fl) (hc : Caps w g p q r (.func (.func 42) #[.pointer (some ⟨g, 0, none⟩)] #[]) 38 32 3 mx) (hmx : mx ≤ 9223372036854775807) :
    Calls Try.prog 57 #[.pointer (some ⟨g, 0, none⟩), .func (.func 58) #[] #[.pointer (some ⟨p, 0, none⟩), .pointer (some ⟨q, 0, none⟩), .pointer (some ⟨r, 0, none⟩)]] w
      (BPost w g A n c xs (out [] fl k (pBytes mx xs k))) := by
  have hof := h.off
  have hg := h.lt
  cases fl with
  | true =>
    rw [out_true]
    have H := Lib.hid h; clear h
    go_enter Try.func57, Try.ntmps57
    go_wp2_with (go_at_call 37; refine (stopped_any H.out).mono ?_; rintro e w' ⟨rfl, rfl⟩)
    go_ret
    exact ⟨_, rfl, BRow.nil _ _, H.out, Only.refl _ _⟩
  | false =>
    have c1 := h.cell 1
    have H := Lib.hid h; clear h
    have HC := Lib.hid hc; clear hc
    go_enter Try.func57, Try.ntmps57
    go_wp2_with (go_at_call 37; refine (stopped_any H.out).mono ?_; rintro e w' ⟨rfl, rfl⟩)
    refine (clos_bytes mx p q r H.out HC.out hmx).mono ?_
    rintro e w1 ⟨s, k', fl', rfl, hR, ho, hm⟩
    have d2 := hR.cell 2
    have f1 := hR.free 1
    have d1 := hR.cell 1
    have HR := Lib.hid hR; have Ho := Lib.hid ho
    clear hR ho c1
    cases hp : pBytes mx xs k with
    | some o =>
      obtain ⟨t, k1⟩ := o
      rw [hp] at hm
      obtain ⟨hv, rfl, rfl⟩ := hm
      have Hp := Lib.hid hp; have Hv := Lib.hid hv; clear hp hv
      go_wp2
      go_ret
      rw [out_some Hp.out]
      exact ⟨_, rfl, Hv.out, HR.out, Ho.out⟩
    | none =>
      rw [hp] at hm
      simp only at hm
      subst hm
      have Hp := Lib.hid hp; clear hp
      go_wp2
      go_ret
      rw [out_none Hp.out]
      exact ⟨_, rfl, BRow.nil _ _, HR.out.go k hof, Ho.out.set 1 _⟩

theorem BPost.base {w w0 : World} {z : List Nat × Nat × Bool} {e : Ending} {w' : World} (h : BPost w g A n c xs z e w') (ho : Only g w0 w) : BPost w0 g A n c xs z e w' :=
  let ⟨v, he, hv, hr, h2⟩ := h
  ⟨v, he, hv.mono ho.size, hr, ho.trans h2⟩
theorem part_bytes (mx : Int) (h : Rdr w g A n c xs k fl) (hmx : mx ≤ 9223372036854775807) :
    Calls Try.prog 41 #[.pointer (some ⟨g, 0, none⟩), .int .i64 mx, .func (.func 42) #[.pointer (some ⟨g, 0, none⟩)] #[]] w (BPost w g A n c xs (out [] fl k (pBytes mx xs k))) := by
  have hg := h.lt
  have H := Lib.hid h; clear h
  go_enter Try.func41, Try.ntmps41
  go_wp2_with fail
  have hbel : Below w.heap.size w (((w.alloc (.cells #[.pointer (some ⟨g, 0, none⟩)] 32)).alloc (.cells #[.int .i64 mx] 3)).alloc (.cells #[.func (.func 42) #[.pointer (some ⟨g, 0, none⟩)] #[]] 38)) :=
    (((Below.refl _ w).alloc (Nat.le_refl _) _).alloc (by simp) _).alloc (by simp; omega) _
  obtain ⟨p0, p1, p2⟩ := heap_alloc_3 w (.cells #[.pointer (some ⟨g, 0, none⟩)] 32) (.cells #[.int .i64 mx] 3) (.cells #[.func (.func 42) #[.pointer (some ⟨g, 0, none⟩)] #[]] 38)
  refine (whole_bytes mx (w.heap.size + 1 + 1) w.heap.size (w.heap.size + 1) (H.out.below hbel) ⟨p2, p0, p1, by omega, by omega, by omega⟩ hmx).mono ?_
  intro e w1 hp
  obtain ⟨v, rfl, hv, hR, ho⟩ := hp.base ((Only.refl g w).below hbel)
  have HR := Lib.hid hR; have Hv := Lib.hid hv; have Ho := Lib.hid ho
  clear hR ho hv hp hbel p0 p1 p2
  go_wp2
  go_ret
  exact ⟨_, rfl, Hv.out, HR.out, Ho.out⟩
theorem bytes_any (mx : Int) (h : Rdr w g A n c xs k fl) (hmx : mx ≤ 9223372036854775807) :
    Calls Try.prog 20 #[.pointer (some ⟨g, 0, none⟩), .int .i64 mx] w (BPost w g A n c xs (out [] fl k (pBytes mx xs k))) := by
  have H := Lib.hid h; clear h
  go_enter Try.func20, Try.ntmps20
  go_wp2_with fail
  refine (part_bytes mx H.out hmx).mono ?_
  rintro e w1 ⟨v, rfl, hv, hR, ho⟩
  have HR := Lib.hid hR; have Ho := Lib.hid ho; have Hv := Lib.hid hv
  clear hR ho hv
  go_wp2
  go_ret
  exact ⟨_, rfl, Hv.out, HR.out, Ho.out⟩
end
end Go.Proofs.Ytlimaefgifgegaa
