/- The readers' contracts: Values. -/
import Derived.Test.YtlimaefgifgegaaWireEls
import Derived.Deep.Onto
namespace Go.Proofs.Ytlimaefgifgegaa
open Go.RowKit

/-- A list of at most mx values at the offset k. -/
def pLst (mx : Int) (xs : List Nat) (k : Nat) : Option (List Vl × Nat) :=
  match pBnd 0 mx xs k with
  | some (z, k1) => pList pValue z.toNat xs k1
  | none => none
def LPost (w : World) (g : Nat) (A : Option Addr) (n c : Nat) (xs : List Nat) (z : List Vl × Nat × Bool) (e : Ending) (w' : World) : Prop :=
  ∃ v, e = .returned v ∧ VRow w.heap.size w' v z.1 ∧ Rdr w' g A n c xs z.2.1 z.2.2 ∧ Only g w w'
section
variable {w : World} {g n c k : Nat} {A : Option Addr} {xs : List Nat} {fl : Bool}
theorem VRow.mono {B B' : Nat} {w : World} {v : Value} {l : List Vl} (h : VRow B w v l) (hb : B' ≤ B) : VRow B' w v l := World.ownsRow.mono h hb
theorem VRow.nil (B : Nat) (w : World) : VRow B w (.slice none 0 0) [] := World.ownsRow_nil _ _ _ _

set_option maxHeartbeats 1000000 in
theorem clos_vals_1 (mx : Int) (p q r : Nat) (h : Rdr w g A n c xs k false) (hc : Caps w g p q r (.func (.func 46) #[.pointer (some ⟨g, 0, none⟩)] #[]) 47 32 3 mx) (m k1 : Nat) (e : pBnd 0 mx xs k = some ((m : Int), k1)) (hm : m ≤ 1000000) : Calls Try.prog 60 #[.pointer (some ⟨p, 0, none⟩), .pointer (some ⟨q, 0, none⟩), .pointer (some ⟨r, 0, none⟩)] w (RawL w g A n c xs (pLst mx xs k)) := by
  have a0 := cell_of_row w p 0 _ _ _ hc.hp
  have a1 := cell_of_row w q 0 _ _ _ hc.hq
  have a2 := cell_of_row w r 0 _ _ _ hc.hr
  have HD : Hid (Rdr w.drew g A n c xs k false) := Lib.hid h.drew
  clear h
  have Keep := Lib.hid (show ∀ w', Only g w w' → w'.cell? ⟨p, 0, none⟩ = some (.func (.func 46) #[.pointer (some ⟨g, 0, none⟩)] #[]) ∧ w'.cell? ⟨q, 0, none⟩ = some (.pointer (some ⟨g, 0, none⟩)) ∧ w'.cell? ⟨r, 0, none⟩ = some (.int .i64 mx) from fun w' ho => by
    have h := hc.only ho
    exact ⟨cell_of_row w' p 0 _ _ _ h.hp, cell_of_row w' q 0 _ _ _ h.hq, cell_of_row w' r 0 _ _ _ h.hr⟩)
  clear hc
  have He := Lib.hid e; clear e
  go_enter Try.func60, Try.ntmps60
  go_wp2_with fail
  go_region_held3 (fun w' => w'.cell? ⟨p, 0, none⟩ = some (.func (.func 46) #[.pointer (some ⟨g, 0, none⟩)] #[]) ∧ w'.cell? ⟨q, 0, none⟩ = some (.pointer (some ⟨g, 0, none⟩)) ∧ w'.cell? ⟨r, 0, none⟩ = some (.int .i64 mx))
    (first | (exact Keep.out _ ho2) | (exact Keep.out _ ho1) | (exact Keep.out _ (Only.refl _ _).drew))
    (first
      | (go_at_call 17; refine (bnd_some HD.out He.out).mono ?_; rintro e w1 ⟨rfl, hR1, ho1'⟩; have ho1 := (Only.refl g w).drew.trans ho1'; have HR1 := Lib.hid hR1)
      | (go_at_call 46; refine (values_m m HR1.out hm).mono ?_; rintro e w2 ⟨v2, k2, fl2, rfl, hR2, ho2', hm2⟩; have ho2 := ho1.trans ho2'; have HR2 := Lib.hid hR2; have Hm2 := Lib.hid hm2; have Hsz := Lib.hid ho1.size))
  have Ho2 := Lib.hid ho2
  clear hm2
  go_wp2
  go_ret
  refine ⟨_, _, _, rfl, HR2.out, Ho2.out, ?_⟩
  have hm2 := Hm2.out
  unfold pLst
  rw [He.out]
  simp only [Int.toNat_natCast]
  cases hp : pList pValue m xs k1 with
  | none => rw [hp] at hm2; exact hm2
  | some o =>
    obtain ⟨l, k3⟩ := o
    rw [hp] at hm2
    exact ⟨hm2.1.mono Hsz.out, hm2.2⟩
set_option maxHeartbeats 1000000 in
theorem clos_vals_3 (mx : Int) (p q r : Nat) (h : Rdr w g A n c xs k false) (hc : Caps w g p q r (.func (.func 46) #[.pointer (some ⟨g, 0, none⟩)] #[]) 47 32 3 mx) (e : pBnd 0 mx xs k = none) : Calls Try.prog 60 #[.pointer (some ⟨p, 0, none⟩), .pointer (some ⟨q, 0, none⟩), .pointer (some ⟨r, 0, none⟩)] w (RawL w g A n c xs (pLst mx xs k)) := by
  have a0 := cell_of_row w p 0 _ _ _ hc.hp
  have a1 := cell_of_row w q 0 _ _ _ hc.hq
  have a2 := cell_of_row w r 0 _ _ _ hc.hr
  have HD : Hid (Rdr w.drew g A n c xs k false) := Lib.hid h.drew
  clear h
  have Keep := Lib.hid (show ∀ w', Only g w w' → w'.cell? ⟨p, 0, none⟩ = some (.func (.func 46) #[.pointer (some ⟨g, 0, none⟩)] #[]) ∧ w'.cell? ⟨q, 0, none⟩ = some (.pointer (some ⟨g, 0, none⟩)) ∧ w'.cell? ⟨r, 0, none⟩ = some (.int .i64 mx) from fun w' ho => by
    have h := hc.only ho
    exact ⟨cell_of_row w' p 0 _ _ _ h.hp, cell_of_row w' q 0 _ _ _ h.hq, cell_of_row w' r 0 _ _ _ h.hr⟩)
  clear hc
  have He := Lib.hid e; clear e
  go_enter Try.func60, Try.ntmps60
  go_wp2_with fail
  go_region_held3 (fun w' => w'.cell? ⟨p, 0, none⟩ = some (.func (.func 46) #[.pointer (some ⟨g, 0, none⟩)] #[]) ∧ w'.cell? ⟨q, 0, none⟩ = some (.pointer (some ⟨g, 0, none⟩)) ∧ w'.cell? ⟨r, 0, none⟩ = some (.int .i64 mx))
    (first | (exact Keep.out _ ho2) | (exact Keep.out _ ho1) | (exact Keep.out _ (Only.refl _ _).drew))
    (first
      | (go_at_call 17; refine (bnd_fail HD.out He.out).mono ?_; rintro e w1 ⟨rfl, hR1, ho1'⟩; have ho1 := (Only.refl g w).drew.trans ho1'; have HR1 := Lib.hid hR1)
      | (go_at_call 46; refine (values_0 HR1.out).mono ?_; rintro e w2 ⟨rfl, hR2, ho2'⟩; have ho2 := ho1.trans ho2'; have HR2 := Lib.hid hR2))
  have Ho2 := Lib.hid ho2
  go_wp2
  go_ret
  refine ⟨_, _, _, rfl, HR2.out, Ho2.out, ?_⟩
  unfold pLst
  rw [He.out]
theorem clos_vals (mx : Int) (p q r : Nat) (h : Rdr w g A n c xs k false) (hc : Caps w g p q r (.func (.func 46) #[.pointer (some ⟨g, 0, none⟩)] #[]) 47 32 3 mx) (hmx : mx ≤ 1000000) : Calls Try.prog 60 #[.pointer (some ⟨p, 0, none⟩), .pointer (some ⟨q, 0, none⟩), .pointer (some ⟨r, 0, none⟩)] w (RawL w g A n c xs (pLst mx xs k)) := by
  cases e : pBnd 0 mx xs k with
  | none => exact clos_vals_3 mx p q r h hc e
  | some o =>
    obtain ⟨z, k1⟩ := o
    have hz := pBnd_some e
    obtain ⟨m, rfl⟩ : ∃ m : Nat, z = (m : Int) := ⟨z.toNat, by omega⟩
    exact clos_vals_1 mx p q r h hc m k1 e (by omega)

set_option maxHeartbeats 1000000 in
theorem whole_vals (mx : Int) (p q r : Nat) (h : Rdr w g A n c xs k fl) (hc : Caps w g p q r (.func (.func 46) #[.pointer (some ⟨g, 0, none⟩)] #[]) 47 32 3 mx) (hmx : mx ≤ 1000000) :
    Calls Try.prog 59 #[.pointer (some ⟨g, 0, none⟩), .func (.func 60) #[] #[.pointer (some ⟨p, 0, none⟩), .pointer (some ⟨q, 0, none⟩), .pointer (some ⟨r, 0, none⟩)]] w
      (LPost w g A n c xs (out [] fl k (pLst mx xs k))) := by
  have hof := h.off
  have hg := h.lt
  cases fl with
  | true =>
    rw [out_true]
    have H := Lib.hid h; clear h
    go_enter Try.func59, Try.ntmps59
    go_wp2_with (go_at_call 37; refine (stopped_any H.out).mono ?_; rintro e w' ⟨rfl, rfl⟩)
    go_ret
    exact ⟨_, rfl, VRow.nil _ _, H.out, Only.refl _ _⟩
  | false =>
    have c1 := h.cell 1
    have H := Lib.hid h; clear h
    have HC := Lib.hid hc; clear hc
    go_enter Try.func59, Try.ntmps59
    go_wp2_with (go_at_call 37; refine (stopped_any H.out).mono ?_; rintro e w' ⟨rfl, rfl⟩)
    refine (clos_vals mx p q r H.out HC.out hmx).mono ?_
    rintro e w1 ⟨s, k', fl', rfl, hR, ho, hm⟩
    have d2 := hR.cell 2
    have f1 := hR.free 1
    have d1 := hR.cell 1
    have HR := Lib.hid hR; have Ho := Lib.hid ho
    clear hR ho c1
    cases hp : pLst mx xs k with
    | some o =>
      obtain ⟨t, k1⟩ := o
      rw [hp] at hm
      obtain ⟨hv, rfl, rfl⟩ := hm
      have Hp := Lib.hid hp; have Hv := Lib.hid hv; clear hp hv
      go_wp2
      go_ret
      rw [out_some Hp.out]
      exact ⟨_, rfl, Hv.out, HR.out, Ho.out⟩
    | none =>
      rw [hp] at hm
      simp only at hm
      subst hm
      have Hp := Lib.hid hp; clear hp
      go_wp2
      go_ret
      rw [out_none Hp.out]
      exact ⟨_, rfl, VRow.nil _ _, HR.out.go k hof, Ho.out.set 1 _⟩

theorem LPost.base {w w0 : World} {z : List Vl × Nat × Bool} {e : Ending} {w' : World} (h : LPost w g A n c xs z e w') (ho : Only g w0 w) : LPost w0 g A n c xs z e w' :=
  let ⟨v, he, hv, hr, h2⟩ := h
  ⟨v, he, hv.mono ho.size, hr, ho.trans h2⟩
theorem part_vals (mx : Int) (h : Rdr w g A n c xs k fl) (hmx : mx ≤ 1000000) :
    Calls Try.prog 45 #[.pointer (some ⟨g, 0, none⟩), .int .i64 mx, .func (.func 46) #[.pointer (some ⟨g, 0, none⟩)] #[]] w (LPost w g A n c xs (out [] fl k (pLst mx xs k))) := by
  have hg := h.lt
  have H := Lib.hid h; clear h
  go_enter Try.func45, Try.ntmps45
  go_wp2_with fail
  have hbel : Below w.heap.size w (((w.alloc (.cells #[.pointer (some ⟨g, 0, none⟩)] 32)).alloc (.cells #[.int .i64 mx] 3)).alloc (.cells #[.func (.func 46) #[.pointer (some ⟨g, 0, none⟩)] #[]] 47)) :=
    (((Below.refl _ w).alloc (Nat.le_refl _) _).alloc (by simp) _).alloc (by simp; omega) _
  obtain ⟨p0, p1, p2⟩ := heap_alloc_3 w (.cells #[.pointer (some ⟨g, 0, none⟩)] 32) (.cells #[.int .i64 mx] 3) (.cells #[.func (.func 46) #[.pointer (some ⟨g, 0, none⟩)] #[]] 47)
  refine (whole_vals mx (w.heap.size + 1 + 1) w.heap.size (w.heap.size + 1) (H.out.below hbel) ⟨p2, p0, p1, by omega, by omega, by omega⟩ hmx).mono ?_
  intro e w1 hp
  obtain ⟨v, rfl, hv, hR, ho⟩ := hp.base ((Only.refl g w).below hbel)
  have HR := Lib.hid hR; have Hv := Lib.hid hv; have Ho := Lib.hid ho
  clear hR ho hv hp hbel p0 p1 p2
  go_wp2
  go_ret
  exact ⟨_, rfl, Hv.out, HR.out, Ho.out⟩
theorem values_any (mx : Int) (h : Rdr w g A n c xs k fl) (hmx : mx ≤ 1000000) :
    Calls Try.prog 24 #[.pointer (some ⟨g, 0, none⟩), .int .i64 mx] w (LPost w g A n c xs (out [] fl k (pLst mx xs k))) := by
  have H := Lib.hid h; clear h
  go_enter Try.func24, Try.ntmps24
  go_wp2_with fail
  refine (part_vals mx H.out hmx).mono ?_
  rintro e w1 ⟨v, rfl, hv, hR, ho⟩
  have HR := Lib.hid hR; have Ho := Lib.hid ho; have Hv := Lib.hid hv
  clear hR ho hv
  go_wp2
  go_ret
  exact ⟨_, rfl, Hv.out, HR.out, Ho.out⟩
end
end Go.Proofs.Ytlimaefgifgegaa
