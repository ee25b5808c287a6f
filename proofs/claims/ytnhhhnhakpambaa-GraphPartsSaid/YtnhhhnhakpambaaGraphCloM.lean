/- GraphClosure, plain facts: what is reached from several nodes. -/
import Derived.Test.YtnhhhnhakpambaaGraphPath
import Derived.Test.YtnhhhnhakpambaaGraphReversed
namespace Go.Proofs.Ytnhhhnhakpambaa
open Go.RowKit

theorem RchN.mono_src {g : List (List Nat)} {S T : List Nat} (h : ∀ x ∈ S, x ∈ T) : ∀ {k v : Nat}, RchN g S k v → RchN g T k v
  | 0, v, hv => h v hv
  | _ + 1, _, ⟨u, hu, hv⟩ => ⟨u, RchN.mono_src h hu, hv⟩
theorem RchN.comp {g : List (List Nat)} {S T : List Nat} (h : ∀ x ∈ T, ∃ j, RchN g S j x) : ∀ {k v : Nat}, RchN g T k v → ∃ j, RchN g S j v
  | 0, v, hv => h v hv
  | _ + 1, _, ⟨_, hu, hv⟩ => by
    obtain ⟨j, hj⟩ := RchN.comp h hu
    exact ⟨j + 1, _, hj, hv⟩
theorem RchN.single {g : List (List Nat)} {S : List Nat} : ∀ {k v : Nat}, RchN g S k v → ∃ s ∈ S, RchN g [s] k v
  | 0, v, hv => ⟨v, hv, by simp [RchN]⟩
  | _ + 1, _, ⟨u, hu, hv⟩ => by
    obtain ⟨s, hs, h⟩ := RchN.single hu
    exact ⟨s, hs, u, h, hv⟩
theorem RchN.many {g : List (List Nat)} {S : List Nat} {s k v : Nat} (hs : s ∈ S) (h : RchN g [s] k v) : RchN g S k v :=
  RchN.mono_src (by simpa using hs) h
/-- Reaching again from what was reached adds nothing. -/
theorem rch_idem {g : List (List Nat)} {S : List Nat} {D E : List Int} (hD : IsDist g S D) (hE : IsDist g (rchM g.length D) E) (hS : ∀ x ∈ S, x < g.length) : rchM g.length E = rchM g.length D := by
  unfold rchM
  refine List.filter_congr fun v hv => ?_
  have hv' : v < g.length := List.mem_range.1 hv
  rw [decide_eq_decide, hE.rch hv', hD.rch hv']
  constructor
  · rintro ⟨k, hk⟩
    refine RchN.comp (fun x hx => ?_) hk
    obtain ⟨hx1, hx2⟩ := rchM_mem.1 hx
    exact (hD.rch hx1).1 hx2
  · rintro ⟨k, hk⟩
    refine RchN.comp (fun x hx => ⟨0, ?_⟩) hk
    exact rchM_mem.2 ⟨hS x hx, (hD.rch (hS x hx)).2 ⟨0, hx⟩⟩
/-- More nodes reach more. -/
theorem rch_sub {g : List (List Nat)} {S T : List Nat} {D E : List Int} (hD : IsDist g S D) (hE : IsDist g T E) (h : ∀ x ∈ S, x ∈ T) : ((rchM g.length D).filter fun x : Nat => !rhas (rchM g.length E) x).length = 0 := by
  rw [List.length_eq_zero_iff, List.filter_eq_nil_iff]
  intro x hx
  obtain ⟨hx1, hx2⟩ := rchM_mem.1 hx
  obtain ⟨k, hk⟩ := (hD.rch hx1).1 hx2
  rw [rhas_rch, decide_eq_true (⟨hx1, (hE.rch hx1).2 ⟨k, RchN.mono_src h hk⟩⟩ : _ ∧ _)]
  simp
/-- What is reached is closed under successors. -/
theorem rch_next {g : List (List Nat)} {S : List Nat} {D : List Int} (hg : VG g) (hD : IsDist g S D) {n : Nat} (hn : n < g.length) (h : dat D n ≠ -1) : ((row g n).filter fun x : Nat => !rhas (rchM g.length D) x).length = 0 := by
  rw [List.length_eq_zero_iff, List.filter_eq_nil_iff]
  intro x hx
  have hx1 := hg.node n x hx
  obtain ⟨k, hk⟩ := (hD.rch hn).1 h
  rw [rhas_rch, decide_eq_true (⟨hx1, (hD.rch hx1).2 ⟨k + 1, n, hk, hx⟩⟩ : _ ∧ _)]
  simp
/-- Whether one of the first k nodes reaches n. -/
def Fnd (g : List (List Nat)) (S : List Nat) (n k : Nat) (b : Bool) : Prop := b = true ↔ ∃ s ∈ S.take k, ∃ j, RchN g [s] j n
theorem Fnd.start (g : List (List Nat)) (S : List Nat) (n : Nat) : Fnd g S n 0 false := by simp [Fnd]
theorem Fnd.step {g : List (List Nat)} (hg : VG g) {S : List Nat} {n k s : Nat} {b : Bool} (h : Fnd g S n k b) (hk : S[k]? = some s) (hs : s < g.length) {L : List Int} (hL : IsDist (revM g) [n] L) : Fnd g S n (k + 1) (b || decide (dat L s ≠ -1)) := by
  obtain ⟨hk1, rfl⟩ := List.getElem?_eq_some_iff.1 hk
  unfold Fnd at *
  rw [Bool.or_eq_true, h, decide_eq_true_iff, hL.rch (by rw [revM_len]; exact hs)]
  constructor
  · rintro (⟨s, hs, j, hj⟩ | ⟨j, hj⟩)
    · exact ⟨s, (take_succ_mem hk1 s).2 (.inl hs), j, hj⟩
    · exact ⟨S[k], (take_succ_mem hk1 _).2 (.inr rfl), j, (RchN.rev (revM_rev hg)).2 hj⟩
  · rintro ⟨s, hs, j, hj⟩
    rcases (take_succ_mem hk1 s).1 hs with h | rfl
    · exact .inl ⟨s, h, j, hj⟩
    · exact .inr ⟨j, (RchN.rev (revM_rev hg)).1 hj⟩
theorem Fnd.all {g : List (List Nat)} {S : List Nat} {n : Nat} {b : Bool} {D : List Int} (h : Fnd g S n S.length b) (hD : IsDist g S D) (hn : n < g.length) : b = decide (dat D n ≠ -1) := by
  unfold Fnd at h
  rw [List.take_length] at h
  rw [Bool.eq_iff_iff, h, decide_eq_true_iff, hD.rch hn]
  constructor
  · rintro ⟨s, hs, j, hj⟩; exact ⟨j, RchN.many hs hj⟩
  · rintro ⟨j, hj⟩
    obtain ⟨s, hs, h⟩ := RchN.single hj
    exact ⟨s, hs, j, h⟩
def ndsM (n : Nat) (l : List Nat) : List Nat := if n = 0 then [] else l.map (· % n)
theorem ndsM_lt (n : Nat) (l : List Nat) : ∀ x ∈ ndsM n l, x < n := by
  unfold ndsM
  split
  · simp
  · intro x hx
    obtain ⟨y, _, rfl⟩ := List.mem_map.1 hx
    exact Nat.mod_lt _ (by omega)
theorem ndsM_len (n : Nat) (l : List Nat) : (ndsM n l).length ≤ l.length := by
  unfold ndsM; split <;> simp
theorem own_keep {w w' : World} {B : Nat} {e : TypeId} {v : Value} {n : Nat} {xs : List Value} (h : w.ownsRow B e 1 v n xs) (hb : Below w.heap.size w w') : w'.ownsRow B e 1 v n xs :=
  h.kept (row := none) ⟨hb.os, hb.tape, hb.output, hb.size, fun k hk _ => hb.block k hk⟩ (by cases v.ownBlock <;> simp)
theorem rsub_b {va vb : Value} {l b : List Nat} {w : World} (hz : (l.filter fun x : Nat => !rhas b x).length = 0) (h : Sl nv w va l) (hb : Sl nv w vb b) (hl : l.length ≤ 10000) (lb : b.length ≤ 10000) :
    Calls Try.prog 35 #[va, vb] w (BoolB true w) :=
  (rsub_any va vb l b w h hb hl lb).mono fun _ _ ⟨h1, h2⟩ => ⟨by rw [h1, decide_eq_true hz], h2⟩
theorem IsDist.lo {g : List (List Nat)} {S : List Nat} {D : List Int} (hD : IsDist g S D) {u : Nat} (hu : u < g.length) : -1 ≤ dat D u := by
  rcases hD.at_ u hu with ⟨h, _⟩ | ⟨k, h, _⟩ <;> omega
end Go.Proofs.Ytnhhhnhakpambaa
