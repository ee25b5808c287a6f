/- The readers' contracts: texts. -/
import Derived.Test.YtlimaefgifgegaaWireTake
import Derived.Test.YtlimaefgifgegaaRegion
import Derived.Deep.RegionHeld3
namespace Go.Proofs.Ytlimaefgifgegaa
open Go.RowKit

theorem run_sl {P : Program} (w : World) (src e dst : TypeId) (hs : P.underlying src = some (.slice e)) (he : P.underlying e = some (.int .u8)) (hd : P.underlying dst = some .string) (v : Value) (ys : List Nat) (h : Sl w v ys) :
    (convert src dst v).run P w = .ok (.string (strOf ys)) w := by
  obtain ⟨B, m, d, rfl, hm, hmd, hb⟩ := h
  cases B with
  | none =>
    rcases hb with rfl | ⟨ad, hA, _⟩
    · exact run_convert_bytes_nil w src e hs he m d dst hd
    · cases hA
  | some ad =>
    refine run_str w src e dst hs he hd _ ys (.inr ⟨ad, d, by rw [hm], by omega, fun j b hj => ?_⟩)
    rcases hb with rfl | ⟨ad', hA, hc⟩
    · simp at hj
    · cases hA; exact hc j b hj

section
variable {w : World} {g n c k : Nat} {A : Option Addr} {xs : List Nat} {fl : Bool}
/-- The part of length m at the offset k, whatever its kind. -/
def tstr (xs : List Nat) (k m : Nat) : ByteArray := strOf ((xs.drop k).take m)

theorem text_ok (m : Nat) (h : Rdr w g A n c xs k fl) (hm : m ≤ n - k) :
    Calls Try.prog 40 #[.pointer (some ⟨g, 0, none⟩), .int .i64 (m : Int)] w (RPost w g A n c xs (.string (tstr xs k m), k + m, fl)) := by
  have H := Lib.hid h; clear h
  go_enter Try.func40, Try.ntmps40
  go_wp2_with fail
  refine (take_ok m H.out hm).mono ?_
  rintro e w1 ⟨v, rfl, hsl, hR, ho⟩
  have HR := Lib.hid hR; have Ho := Lib.hid ho
  have rs := run_sl (P := Try.prog) w1 24 5 9 Try.underlying24 Try.underlying5 Try.underlying9 _ _ hsl
  clear hR ho
  go_wp2
  go_ret
  exact ⟨rfl, HR.out, Ho.out⟩
theorem text_no (m : Nat) (h : Rdr w g A n c xs k fl) (hm : n - k < m) (hm2 : m ≤ 9223372036854775807) :
    Calls Try.prog 40 #[.pointer (some ⟨g, 0, none⟩), .int .i64 (m : Int)] w (RPost w g A n c xs (.string (strOf []), k, true)) := by
  have H := Lib.hid h; clear h
  go_enter Try.func40, Try.ntmps40
  go_wp2_with fail
  refine (take_no m H.out hm hm2).mono ?_
  rintro e w1 ⟨v, rfl, hsl, hR, ho⟩
  have HR := Lib.hid hR; have Ho := Lib.hid ho
  have rs := run_sl (P := Try.prog) w1 24 5 9 Try.underlying24 Try.underlying5 Try.underlying9 _ _ hsl
  clear hR ho
  go_wp2
  go_ret
  exact ⟨rfl, HR.out, Ho.out⟩

/-- A part of length at most mx at the offset k: its length's place, its length. -/
def pPart (mx : Int) (xs : List Nat) (k : Nat) : Option (Nat × Nat) :=
  match pBnd 0 mx xs k with
  | some (z, k1) => if z.toNat ≤ xs.length - k1 then some (k1, z.toNat) else none
  | none => none
def pText (mx : Int) (xs : List Nat) (k : Nat) : Option (ByteArray × Nat) := (pPart mx xs k).map fun p => (tstr xs p.1 p.2, p.1 + p.2)
/-- What lies in memory before a part is read: three variables. -/
structure Caps (w : World) (g p q r : Nat) (f : Value) (tp tq tr : TypeId) (mx : Int) : Prop where
  hp : w.heap[p]? = some (.cells #[f] tp (0, 0))
  hq : w.heap[q]? = some (.cells #[.pointer (some ⟨g, 0, none⟩)] tq (0, 0))
  hr : w.heap[r]? = some (.cells #[.int .i64 mx] tr (0, 0))
  np : p ≠ g
  nq : q ≠ g
  nr : r ≠ g
theorem Caps.only {w w' : World} {g p q r : Nat} {f : Value} {tp tq tr : TypeId} {mx : Int} (h : Caps w g p q r f tp tq tr mx) (ho : Only g w w') : Caps w' g p q r f tp tq tr mx :=
  ⟨(ho.block p (lt_of_some h.hp) h.np).trans h.hp, (ho.block q (lt_of_some h.hq) h.nq).trans h.hq, (ho.block r (lt_of_some h.hr) h.nr).trans h.hr, h.np, h.nq, h.nr⟩
def RawT (w : World) (g : Nat) (A : Option Addr) (n c : Nat) (xs : List Nat) (o : Option (ByteArray × Nat)) (e : Ending) (w' : World) : Prop :=
  ∃ s k' fl, e = .returned (.string s) ∧ Rdr w' g A n c xs k' fl ∧ Only g w w' ∧ (match o with | some (t, k1) => s = t ∧ k' = k1 ∧ fl = false | none => fl = true)

theorem pBnd_some {lo hi z : Int} {xs : List Nat} {k k1 : Nat} (h : pBnd lo hi xs k = some (z, k1)) : lo ≤ z ∧ z ≤ hi := by
  unfold pBnd at h
  split at h
  · cases h
  · split at h
    · cases h; assumption
    · cases h
theorem Rdr.drew {w : World} {g n c k : Nat} {A : Option Addr} {xs : List Nat} {fl : Bool} (h : Rdr w g A n c xs k fl) : Rdr w.drew g A n c xs k fl := ⟨h.blk, h.len, h.cap, h.off, h.data, h.byt, h.room⟩
theorem Only.drew {g : Nat} {a b : World} (h : Only g a b) : Only g a b.drew := ⟨h.os, h.tape, h.output, h.size, h.block⟩
theorem bnd_some {lo hi z : Int} {k1 : Nat} (h : Rdr w g A n c xs k false) (e : pBnd lo hi xs k = some (z, k1)) :
    Calls Try.prog 17 #[.pointer (some ⟨g, 0, none⟩), .int .i64 lo, .int .i64 hi] w (RPost w g A n c xs (.int .i64 z, k1, false)) := by
  have := bnd_any lo hi h
  rwa [out_some e] at this
theorem bnd_fail {lo hi : Int} (h : Rdr w g A n c xs k false) (e : pBnd lo hi xs k = none) :
    Calls Try.prog 17 #[.pointer (some ⟨g, 0, none⟩), .int .i64 lo, .int .i64 hi] w (RPost w g A n c xs (.int .i64 0, k, true)) := by
  have := bnd_any lo hi h
  rwa [out_none e] at this

set_option maxHeartbeats 1000000 in
theorem clos_text_1 (mx : Int) (p q r : Nat) (h : Rdr w g A n c xs k false) (hc : Caps w g p q r (.func (.func 40) #[.pointer (some ⟨g, 0, none⟩)] #[]) 37 32 3 mx) (m k1 : Nat) (e : pBnd 0 mx xs k = some ((m : Int), k1)) (hm : m ≤ n - k1) : Calls Try.prog 55 #[.pointer (some ⟨p, 0, none⟩), .pointer (some ⟨q, 0, none⟩), .pointer (some ⟨r, 0, none⟩)] w (RawT w g A n c xs (pText mx xs k)) := by
  have a0 := cell_of_row w p 0 _ _ _ hc.hp
  have a1 := cell_of_row w q 0 _ _ _ hc.hq
  have a2 := cell_of_row w r 0 _ _ _ hc.hr
  have HD : Hid (Rdr w.drew g A n c xs k false) := Lib.hid h.drew
  have hlen := h.len
  clear h
  have Keep := Lib.hid (show ∀ w', Only g w w' → w'.cell? ⟨p, 0, none⟩ = some (.func (.func 40) #[.pointer (some ⟨g, 0, none⟩)] #[]) ∧ w'.cell? ⟨q, 0, none⟩ = some (.pointer (some ⟨g, 0, none⟩)) ∧ w'.cell? ⟨r, 0, none⟩ = some (.int .i64 mx) from fun w' ho => by
    have h := hc.only ho
    exact ⟨cell_of_row w' p 0 _ _ _ h.hp, cell_of_row w' q 0 _ _ _ h.hq, cell_of_row w' r 0 _ _ _ h.hr⟩)
  clear hc
  have He := Lib.hid e; clear e
  go_enter Try.func55, Try.ntmps55
  go_wp2_with fail
  go_region_held3 (fun w' => w'.cell? ⟨p, 0, none⟩ = some (.func (.func 40) #[.pointer (some ⟨g, 0, none⟩)] #[]) ∧ w'.cell? ⟨q, 0, none⟩ = some (.pointer (some ⟨g, 0, none⟩)) ∧ w'.cell? ⟨r, 0, none⟩ = some (.int .i64 mx))
    (first | (exact Keep.out _ ho2) | (exact Keep.out _ ho1) | (exact Keep.out _ (Only.refl _ _).drew))
    (first
      | (go_at_call 17; refine (bnd_some HD.out He.out).mono ?_; rintro e w1 ⟨rfl, hR1, ho1'⟩; have ho1 := (Only.refl g w).drew.trans ho1'; have HR1 := Lib.hid hR1)
      | (go_at_call 40; refine (text_ok m HR1.out hm).mono ?_; rintro e w2 ⟨rfl, hR2, ho2'⟩; have ho2 := ho1.trans ho2'; have HR2 := Lib.hid hR2))
  have Ho2 := Lib.hid ho2
  go_wp2
  go_ret
  refine ⟨_, _, _, rfl, HR2.out, Ho2.out, ?_⟩
  unfold pText pPart
  rw [He.out]
  simp only [Int.toNat_natCast]
  rw [if_pos (by omega)]
  exact ⟨rfl, rfl, trivial⟩
set_option maxHeartbeats 1000000 in
theorem clos_text_2 (mx : Int) (p q r : Nat) (h : Rdr w g A n c xs k false) (hc : Caps w g p q r (.func (.func 40) #[.pointer (some ⟨g, 0, none⟩)] #[]) 37 32 3 mx) (m k1 : Nat) (e : pBnd 0 mx xs k = some ((m : Int), k1)) (hm : n - k1 < m) (hm2 : m ≤ 9223372036854775807) : Calls Try.prog 55 #[.pointer (some ⟨p, 0, none⟩), .pointer (some ⟨q, 0, none⟩), .pointer (some ⟨r, 0, none⟩)] w (RawT w g A n c xs (pText mx xs k)) := by
  have a0 := cell_of_row w p 0 _ _ _ hc.hp
  have a1 := cell_of_row w q 0 _ _ _ hc.hq
  have a2 := cell_of_row w r 0 _ _ _ hc.hr
  have HD : Hid (Rdr w.drew g A n c xs k false) := Lib.hid h.drew
  have hlen := h.len
  clear h
  have Keep := Lib.hid (show ∀ w', Only g w w' → w'.cell? ⟨p, 0, none⟩ = some (.func (.func 40) #[.pointer (some ⟨g, 0, none⟩)] #[]) ∧ w'.cell? ⟨q, 0, none⟩ = some (.pointer (some ⟨g, 0, none⟩)) ∧ w'.cell? ⟨r, 0, none⟩ = some (.int .i64 mx) from fun w' ho => by
    have h := hc.only ho
    exact ⟨cell_of_row w' p 0 _ _ _ h.hp, cell_of_row w' q 0 _ _ _ h.hq, cell_of_row w' r 0 _ _ _ h.hr⟩)
  clear hc
  have He := Lib.hid e; clear e
  go_enter Try.func55, Try.ntmps55
  go_wp2_with fail
  go_region_held3 (fun w' => w'.cell? ⟨p, 0, none⟩ = some (.func (.func 40) #[.pointer (some ⟨g, 0, none⟩)] #[]) ∧ w'.cell? ⟨q, 0, none⟩ = some (.pointer (some ⟨g, 0, none⟩)) ∧ w'.cell? ⟨r, 0, none⟩ = some (.int .i64 mx))
    (first | (exact Keep.out _ ho2) | (exact Keep.out _ ho1) | (exact Keep.out _ (Only.refl _ _).drew))
    (first
      | (go_at_call 17; refine (bnd_some HD.out He.out).mono ?_; rintro e w1 ⟨rfl, hR1, ho1'⟩; have ho1 := (Only.refl g w).drew.trans ho1'; have HR1 := Lib.hid hR1)
      | (go_at_call 40; refine (text_no m HR1.out hm hm2).mono ?_; rintro e w2 ⟨rfl, hR2, ho2'⟩; have ho2 := ho1.trans ho2'; have HR2 := Lib.hid hR2))
  have Ho2 := Lib.hid ho2
  go_wp2
  go_ret
  refine ⟨_, _, _, rfl, HR2.out, Ho2.out, ?_⟩
  unfold pText pPart
  rw [He.out]
  simp only [Int.toNat_natCast]
  rw [if_neg (by omega)]
  exact trivial
set_option maxHeartbeats 1000000 in
theorem clos_text_3 (mx : Int) (p q r : Nat) (h : Rdr w g A n c xs k false) (hc : Caps w g p q r (.func (.func 40) #[.pointer (some ⟨g, 0, none⟩)] #[]) 37 32 3 mx) (e : pBnd 0 mx xs k = none) : Calls Try.prog 55 #[.pointer (some ⟨p, 0, none⟩), .pointer (some ⟨q, 0, none⟩), .pointer (some ⟨r, 0, none⟩)] w (RawT w g A n c xs (pText mx xs k)) := by
  have a0 := cell_of_row w p 0 _ _ _ hc.hp
  have a1 := cell_of_row w q 0 _ _ _ hc.hq
  have a2 := cell_of_row w r 0 _ _ _ hc.hr
  have HD : Hid (Rdr w.drew g A n c xs k false) := Lib.hid h.drew
  have hlen := h.len
  clear h
  have Keep := Lib.hid (show ∀ w', Only g w w' → w'.cell? ⟨p, 0, none⟩ = some (.func (.func 40) #[.pointer (some ⟨g, 0, none⟩)] #[]) ∧ w'.cell? ⟨q, 0, none⟩ = some (.pointer (some ⟨g, 0, none⟩)) ∧ w'.cell? ⟨r, 0, none⟩ = some (.int .i64 mx) from fun w' ho => by
    have h := hc.only ho
    exact ⟨cell_of_row w' p 0 _ _ _ h.hp, cell_of_row w' q 0 _ _ _ h.hq, cell_of_row w' r 0 _ _ _ h.hr⟩)
  clear hc
  have He := Lib.hid e; clear e
  go_enter Try.func55, Try.ntmps55
  go_wp2_with fail
  go_region_held3 (fun w' => w'.cell? ⟨p, 0, none⟩ = some (.func (.func 40) #[.pointer (some ⟨g, 0, none⟩)] #[]) ∧ w'.cell? ⟨q, 0, none⟩ = some (.pointer (some ⟨g, 0, none⟩)) ∧ w'.cell? ⟨r, 0, none⟩ = some (.int .i64 mx))
    (first | (exact Keep.out _ ho2) | (exact Keep.out _ ho1) | (exact Keep.out _ (Only.refl _ _).drew))
    (first
      | (go_at_call 17; refine (bnd_fail HD.out He.out).mono ?_; rintro e w1 ⟨rfl, hR1, ho1'⟩; have ho1 := (Only.refl g w).drew.trans ho1'; have HR1 := Lib.hid hR1)
      | (go_at_call 40; refine (text_ok 0 HR1.out (Nat.zero_le _)).mono ?_; rintro e w2 ⟨rfl, hR2, ho2'⟩; have ho2 := ho1.trans ho2'; have HR2 := Lib.hid hR2))
  have Ho2 := Lib.hid ho2
  go_wp2
  go_ret
  refine ⟨_, _, _, rfl, HR2.out, Ho2.out, ?_⟩
  unfold pText pPart
  rw [He.out]
  rfl
theorem clos_text (mx : Int) (p q r : Nat) (h : Rdr w g A n c xs k false) (hc : Caps w g p q r (.func (.func 40) #[.pointer (some ⟨g, 0, none⟩)] #[]) 37 32 3 mx) (hmx : mx ≤ 9223372036854775807) : Calls Try.prog 55 #[.pointer (some ⟨p, 0, none⟩), .pointer (some ⟨q, 0, none⟩), .pointer (some ⟨r, 0, none⟩)] w (RawT w g A n c xs (pText mx xs k)) := by
  cases e : pBnd 0 mx xs k with
  | none => exact clos_text_3 mx p q r h hc e
  | some o =>
    obtain ⟨z, k1⟩ := o
    have hz := pBnd_some e
    obtain ⟨m, rfl⟩ : ∃ m : Nat, z = (m : Int) := ⟨z.toNat, by omega⟩
    by_cases hm : m ≤ n - k1
    · exact clos_text_1 mx p q r h hc m k1 e hm
    · exact clos_text_2 mx p q r h hc m k1 e (by omega) (by omega)
end
end Go.Proofs.Ytlimaefgifgegaa
