/- Layer 10: protocols as plain data, and what the parser's methods answer. -/
import Derived.Test.YtekpefcggikcbaaGreatDoorLexM
import Derived.Test.YtekpefcggikcbaaGreatDoorMLexSp
import Derived.Lib.ItoaNum
namespace Go.Proofs.YtekpefcggikcbaaGreatDoor
/- Layer 10: protocols as plain data, and what the parser's methods answer. -/
abbrev Bs := List UInt8
structure Tm where
 k : Int
 m : Bs
 f : Bs
 n : Int
deriving DecidableEq
structure Am where
 l : Tm
 op : Bs
 r : Tm
deriving DecidableEq
structure Fd where
 nm : Bs
 k : Int
 lo : Int
 hi : Int
deriving DecidableEq
structure Ms where
 nm : Bs
 fs : List Fd
 wh : List Am
deriving DecidableEq
inductive It where
 | mk (k : Int) (fr : Bs) (to : List Bs) (nm al : Bs) (tk : Int) (bl : List (List It))
structure Pr where
 nm : Bs
 rs : List Bs
 ms : List Ms
 bd : List It

/-- The parser's state: the tokens that follow, the first error's offset, the first error. -/
structure St where
 r : List Tok
 a : Nat
 e : Nat
def P (α : Type) := St → α × St
instance : Monad P where
 pure a := fun s => (a, s)
 bind f k := fun s => k (f s).1 (f s).2
theorem P.bind_run {α β : Type} (f : P α) (k : α → P β) (s : St) : (f >>= k) s = k (f s).1 (f s).2 := rfl
theorem P.pure_run {α : Type} (a : α) (s : St) : (pure a : P α) s = (a, s) := rfl

section
variable (E : Nat)
def nextT (s : St) : Tok := match s.r with
 | [] => ⟨0, [], 0, E⟩
 | t :: _ => t
def failS (x : Nat) (s : St) : St := if s.e = 0 then ⟨[], (nextT E s).p, x⟩ else s
def readS (b : Bool) (s : St) : Tok × St := if b = true then (nextT E s, ⟨s.r.tail, s.a, s.e⟩) else (⟨0, [], 0, 0⟩, failS E 3 s)
def seesB (x : Bs) (s : St) : Bool := (decide ((nextT E s).k = 4) || decide ((nextT E s).k = 1)) && decide ((nextT E s).t = x)
def expectP (x : Bs) : P Unit := fun s => ((), (readS E (seesB E x s) s).2)
def takeP (x : Bs) : P Bool := fun s => if seesB E x s = true then (true, (expectP E x s).2) else (false, s)
def sepL {α : Type} (mark : Bs) (rd : P α) : Nat → P (List α)
 | 0 => pure []
 | n + 1 => do
  let b ← takeP E mark
  if b = true then do
   let x ← rd
   let xs ← sepL mark rd n
   pure (x :: xs)
  else pure []
def sepP {α : Type} (mark : Bs) (rd : P α) : P (List α) := fun s => ((rd s).1 :: (sepL E mark rd (rd s).2.r.length (rd s).2).1, (sepL E mark rd (rd s).2.r.length (rd s).2).2)
def wordP : P Bs := fun s => let x := readS E (decide ((nextT E s).k = 1) && wdB (nextT E s).t) s; (x.1.t, x.2)
def wordsP : P (List Bs) := sepP E [44] (wordP E)
def joinB (sep : Bs) : List Bs → Bs
 | [] => []
 | [a] => a
 | a :: b :: r => a ++ sep ++ joinB sep (b :: r)
def pathP : P Bs := do
 let l ← sepP E [46] (wordP E)
 pure (joinB [46] l)
def numP : P Int := fun s => let x := readS E (decide ((nextT E s).k = 2)) s; ((x.1.v : Int), x.2)
def signedP : P Int := do
 let b ← takeP E [45]
 if b = true then do
  let n ← numP E
  pure (-n)
 else numP E
def sortP (rd : P Int) : P (Int × Int) := do
 let lo ← rd
 expectP E [46, 46]
 let hi ← rd
 pure (lo, hi)
def fieldP : P Fd := do
 let nm ← wordP E
 expectP E [58]
 let b ← takeP E [116, 101, 120, 116]
 if b = true then do
  let x ← sortP E (numP E)
  pure ⟨nm, 2, x.1, x.2⟩
 else do
  expectP E [105, 110, 116]
  let x ← sortP E (signedP E)
  pure ⟨nm, 1, x.1, x.2⟩
def opB (t : Bs) : Bool := decide (t ∈ ([[60], [60, 61], [61, 61], [62, 61], [62]] : List Bs))
def opP : P Bs := fun s => let x := readS E (decide ((nextT E s).k = 4) && opB (nextT E s).t) s; (x.1.t, x.2)
def varP : P (Bs × Bs) := do
 let l ← sepP E [46] (wordP E)
 pure (joinB [46] l.dropLast, l.getLastD [])
def addedP : P Int := do
 let b ← takeP E [43]
 if b = true then numP E
 else do
  let c ← takeP E [45]
  if c = true then do
   let n ← numP E
   pure (-n)
  else pure 0
def termP : P Tm := do
 let b ← takeP E [108, 101, 110]
 if b = true then do
  expectP E [40]
  let x ← varP E
  expectP E [41]
  let n ← addedP E
  pure ⟨3, x.1, x.2, n⟩
 else fun s =>
  if (nextT E s).k = 1 then (do
   let x ← varP E
   let n ← addedP E
   pure ⟨2, x.1, x.2, n⟩ : P Tm) s
  else (do
   let n ← signedP E
   pure ⟨1, [], [], n⟩ : P Tm) s
def atomP : P Am := do
 let l ← termP E
 let op ← opP E
 let r ← termP E
 pure ⟨l, op, r⟩
def fieldsP : P (List Fd) := fun s => if seesB E [41] s = true then ([], s) else sepP E [44] (fieldP E) s
def whereP : P (List Am) := do
 let b ← takeP E [119, 104, 101, 114, 101]
 if b = true then sepP E [97, 110, 100] (atomP E) else pure []
def messageP : P Ms := do
 expectP E [109, 101, 115, 115, 97, 103, 101]
 let nm ← pathP E
 expectP E [40]
 let fs ← fieldsP E
 expectP E [41]
 let wh ← whereP E
 expectP E [59]
 pure ⟨nm, fs, wh⟩
def ticksS (s : St) : St := if (nextT E s).k = 2 ∧ ((nextT E s).v < 1 ∨ 1000 < (nextT E s).v) then failS E 2 s else s
def ticksP : P Int := fun s => numP E (ticksS E s)
def itemsL (item : P It) : Nat → P (List It)
 | 0 => pure []
 | n + 1 => fun s => if s.r ≠ [] ∧ seesB E [125] s = false then (do
   let x ← item
   let xs ← itemsL item n
   pure (x :: xs) : P (List It)) s
  else ([], s)
def itemsP (item : P It) : P (List It) := fun s => (do
 let l ← itemsL E item s.r.length
 expectP E [125]
 pure l : P (List It)) s
def sendP : P It := do
 let fr ← wordP E
 expectP E [45, 62]
 let to ← wordsP E
 expectP E [58]
 let nm ← pathP E
 expectP E [59]
 pure (.mk 1 fr to nm [] 0 [])
def againP : P It := do
 let nm ← pathP E
 expectP E [59]
 pure (.mk 4 [] [] nm [] 0 [])
def callP : P It := do
 let nm ← wordP E
 expectP E [40]
 let to ← wordsP E
 expectP E [41]
 expectP E [97, 115]
 let al ← wordP E
 expectP E [59]
 pure (.mk 6 [] to nm al 0 [])
section
variable (items : P (List It))
def blockP : P (List It) := do
 expectP E [123]
 items
def elseP (t : Int) (bs : List (List It)) : P (List (List It)) :=
 if 0 < t then do
  expectP E [101, 108, 115, 101]
  let b ← blockP E items
  pure (bs ++ [b])
 else pure bs
def withinP : P Int := do
 let w ← takeP E [119, 105, 116, 104, 105, 110]
 if w = true then ticksP E else pure 0
def choiceP : P It := do
 expectP E [97, 116]
 let fr ← wordP E
 let t ← withinP E
 let bs ← sepP E [111, 114] (blockP E items)
 let cs ← elseP E items t bs
 pure (.mk 2 fr [] [] [] t cs)
def loopP : P It := do
 let nm ← pathP E
 let b ← blockP E items
 pure (.mk 3 [] [] nm [] 0 [b])
def parP : P It := do
 let b ← blockP E items
 expectP E [97, 110, 100]
 let bs ← sepP E [97, 110, 100] (blockP E items)
 pure (.mk 5 [] [] [] [] 0 (b :: bs))
def itemP : P It := do
 let b1 ← takeP E [99, 104, 111, 105, 99, 101]
 if b1 = true then choiceP E items else do
  let b2 ← takeP E [108, 111, 111, 112]
  if b2 = true then loopP E items else do
   let b3 ← takeP E [97, 103, 97, 105, 110]
   if b3 = true then againP E else do
    let b4 ← takeP E [112, 97, 114]
    if b4 = true then parP E items else do
     let b5 ← takeP E [99, 97, 108, 108]
     if b5 = true then callP E else sendP E
end
/-- Items, as deep as n. -/
def itemsN : Nat → P (List It)
 | 0 => pure []
 | n + 1 => itemsP E (itemP E (itemsN n))
def messagesL : Nat → P (List Ms)
 | 0 => pure []
 | n + 1 => fun s => if seesB E [109, 101, 115, 115, 97, 103, 101] s = true then (do
   let x ← messageP E
   let xs ← messagesL n
   pure (x :: xs) : P (List Ms)) s
  else ([], s)
def messagesP : P (List Ms) := fun s => messagesL E s.r.length s
def bodyP : P (List It) := fun s => itemsN E (s.r.length + 1) s
def protocolP : P Pr := do
 expectP E [112, 114, 111, 116, 111, 99, 111, 108]
 let nm ← wordP E
 expectP E [40]
 let rs ← wordsP E
 expectP E [41]
 expectP E [123]
 let ms ← messagesP E
 let bd ← bodyP E
 pure ⟨nm, rs, ms, bd⟩
def sourceL : Nat → P (List Pr)
 | 0 => pure []
 | n + 1 => fun s => if s.r ≠ [] then (do
   let x ← protocolP E
   let xs ← sourceL n
   pure (x :: xs) : P (List Pr)) s
  else ([], s)
def sourceP : P (List Pr) := fun s => sourceL E s.r.length s
end
/- Layer 10: the canonical source, plainly. -/
def itoaB (n : Int) : Bs := Go.Lib.itoa n
def showAddedB (n : Int) : Bs := if 0 < n then [32, 43, 32] ++ itoaB n else if n < 0 then [32, 45, 32] ++ itoaB (-n) else []
def showFieldOf (m f : Bs) : Bs := if m = [] then f else m ++ [46] ++ f
def showTermB (t : Tm) : Bs := if t.k = 1 then itoaB t.n else (if t.k = 3 then [108, 101, 110, 40] ++ showFieldOf t.m t.f ++ [41] else showFieldOf t.m t.f) ++ showAddedB t.n
def showAtomB (a : Am) : Bs := showTermB a.l ++ [32] ++ a.op ++ [32] ++ showTermB a.r
def showFieldB (f : Fd) : Bs := f.nm ++ [58, 32] ++ (if f.k = 2 then [116, 101, 120, 116, 32] else [105, 110, 116, 32]) ++ itoaB f.lo ++ [46, 46] ++ itoaB f.hi
def listedB (l : List Bs) : Bs := [40] ++ joinB [44, 32] l ++ [41]
def withinB (t : Int) : Bs := if t = 0 then [] else [32, 119, 105, 116, 104, 105, 110, 32] ++ itoaB t
def lineB (d : Nat) (ps : List Bs) : Bs := List.replicate d 9 ++ ps.flatten ++ [10]
def whereB (l : List Am) : Bs := if l = [] then [] else [32, 119, 104, 101, 114, 101, 32] ++ joinB [32, 97, 110, 100, 32] (l.map showAtomB)
def msgB (d : Nat) (m : Ms) : Bs := lineB d [[109, 101, 115, 115, 97, 103, 101, 32], m.nm, listedB (m.fs.map showFieldB), whereB m.wh, [59]]
mutual
def itB (d : Nat) : It → Bs
 | .mk k fr to nm al tk bl =>
  if k = 1 then lineB d [fr, [32, 45, 62, 32], joinB [44, 32] to, [58, 32], nm, [59]]
  else if k = 2 then blksB d ([99, 104, 111, 105, 99, 101, 32, 97, 116, 32] ++ fr ++ withinB tk) [111, 114] tk bl.length 0 bl
  else if k = 3 then blksB d ([108, 111, 111, 112, 32] ++ nm) [] tk bl.length 0 bl
  else if k = 4 then lineB d [[97, 103, 97, 105, 110, 32], nm, [59]]
  else if k = 5 then blksB d [112, 97, 114] [97, 110, 100] tk bl.length 0 bl
  else if k = 6 then lineB d [[99, 97, 108, 108, 32], nm, listedB to, [32, 97, 115, 32], al, [59]]
  else []
def itsB (d : Nat) : List It → Bs
 | [] => []
 | x :: r => itB d x ++ itsB d r
def blksB (d : Nat) (head kw : Bs) (tk : Int) (n : Nat) : Nat → List (List It) → Bs
 | _, [] => lineB d [[125]]
 | i, b :: r => (if i = 0 then lineB d [head, [32, 123]] else if 0 < tk ∧ i + 1 = n then lineB d [[125, 32, 101, 108, 115, 101, 32, 123]] else lineB d [[125, 32], kw, [32, 123]]) ++ itsB (d + 1) b ++ blksB d head kw tk n (i + 1) r
end
def prB (p : Pr) : Bs := lineB 0 [[112, 114, 111, 116, 111, 99, 111, 108, 32], p.nm, listedB p.rs, [32, 123]] ++ p.ms.flatMap (msgB 1) ++ itsB 1 p.bd ++ lineB 0 [[125]]
def canonB (l : List Pr) : Bs := l.flatMap prB
end Go.Proofs.YtekpefcggikcbaaGreatDoor
