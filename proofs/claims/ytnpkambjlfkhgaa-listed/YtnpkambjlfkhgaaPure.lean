/-
  The plain functions: the program's reader and the document's machine of forms, on lists of bytes. Nothing of the translation is named here.
-/
namespace Go.Proofs.Ytnpkambjlfkhgaa

/-- A mark: kind, place, thread, number; the locks that are held, five of them. -/
structure MK where
  kind : Int
  place : Int
  thread : Int
  num : Int
  h0 : Bool
  h1 : Bool
  h2 : Bool
  h3 : Bool
  h4 : Bool

/-- The reader: the place, the thread, what is open (the innermost first), the marks. -/
structure RS where
  pl : Nat
  th : Int
  op : List (Int × Int)
  mks : List MK

/-- Which of the allowed bytes stands at the place? -/
def nxI (p : List UInt8) (pl : Nat) (al : List UInt8) : Option Nat := (p[pl]?).bind fun c => al.findIdx? (· == c)

def hld (op : List (Int × Int)) (i : Int) : Bool := op.any fun x => x.2 == i

def RS.to (r : RS) (n : Nat) : RS := ⟨r.pl + n, r.th, r.op, r.mks⟩
def RS.mark (r : RS) (kind start num : Int) : RS := ⟨r.pl, r.th, r.op, r.mks ++ [⟨kind, start, r.th, num, hld r.op 0, hld r.op 1, hld r.op 2, hld r.op 3, hld r.op 4⟩]⟩
def RS.push (r : RS) (k l : Int) : RS := ⟨r.pl, r.th, (k, l) :: r.op, r.mks⟩
def RS.pop (r : RS) : RS := ⟨r.pl, r.th, r.op.tail, r.mks⟩
def RS.top (r : RS) : Int := match r.op with | [] => 0 | x :: _ => x.1

def RS.access (p : List UInt8) (r : RS) : RS × Bool :=
  match nxI p r.pl [103, 112] with
  | none => (r, false)
  | some i => match nxI p (r.pl + 1) [120, 121, 122] with
    | none => (r.to 1, false)
    | some g => ((r.to 2).mark (if i = 1 then 2 else 1) r.pl g, true)

def RS.addition (p : List UInt8) (r : RS) : RS × Bool :=
  match nxI p (r.pl + 1) [48, 49, 50, 51, 52, 53, 54, 55, 56, 57] with
  | none => (r.to 1, false)
  | some _ => (r.to 2, true)

def RS.regionBegin (p : List UInt8) (r : RS) : RS × Bool :=
  match nxI p (r.pl + 1) [65, 66, 67, 68] with
  | none => (r.to 1, false)
  | some l => (((r.to 2).mark 3 r.pl l).push 1 l, true)

def RS.regionEnd (r : RS) : RS × Bool := if r.top = 1 then ((r.to 1).pop, true) else (r, false)

def RS.mended (p : List UInt8) (r : RS) : RS × Bool :=
  match nxI p (r.pl + 1) [65, 66, 67, 68, 69] with
  | none => (r.to 1, false)
  | some l => match (((r.to 2).mark 3 r.pl l).push 2 l).access p with
    | (r3, false) => (r3, false)
    | (r3, true) => match nxI p r3.pl [62] with
      | none => (r3, false)
      | some _ => ((r3.to 1).pop, true)

def RS.bodyBegin (p : List UInt8) (r : RS) (k : Int) : RS × Bool :=
  match nxI p (r.pl + 1) [123] with
  | none => (r.to 1, false)
  | some _ => ((r.to 2).push k (-1), true)

def RS.bodyEnd (p : List UInt8) (r : RS) : RS × Bool :=
  if r.top = 3 then r.pop.bodyBegin p 4 else if r.top = 4 then (r.pop.to 1, true) else (r, false)

def RS.nextThread (r : RS) : RS × Bool := if r.op ≠ [] ∨ 4 ≤ r.th then (r, false) else (⟨r.pl + 1, r.th + 1, r.op, r.mks⟩, true)

def RS.piece (p : List UInt8) (r : RS) : RS × Bool :=
  match p[r.pl]? with
  | none => (r, false)
  | some c =>
    if c = 103 ∨ c = 112 then r.access p
    else if c = 105 then r.addition p
    else if c = 111 then (r.to 1, true)
    else if c = 91 then r.regionBegin p
    else if c = 93 then r.regionEnd
    else if c = 60 then r.mended p
    else if c = 63 then r.bodyBegin p 3
    else if c = 33 then r.bodyBegin p 4
    else if c = 125 then r.bodyEnd p
    else if c = 124 then r.nextThread
    else (r, false)

def RS.start : RS := ⟨0, 1, [], []⟩

/-- What the reader comes to, piece by piece. -/
inductive Reach (p : List UInt8) : RS → Prop
  | start : Reach p RS.start
  | step {r r' : RS} : Reach p r → r.pl < p.length → r.piece p = (r', true) → Reach p r'

/-! ### The document's machine -/
def inU (l : List UInt8) (c : UInt8) : Bool := l.any (· == c)

def opnL (c : UInt8) : Option (List UInt8) :=
  if c = 103 ∨ c = 112 then some [118] else if c = 105 then some [110] else if c = 111 then some [] else if c = 91 then some [108, 66, 93]
  else if c = 60 then some [107, 97, 118, 62] else if c = 63 then some [123, 66, 125, 123, 66, 125] else if c = 33 then some [123, 66, 125] else none

def stB (e c : UInt8) : Bool :=
  if e = 118 then inU [120, 121, 122] c else if e = 110 then inU [48, 49, 50, 51, 52, 53, 54, 55, 56, 57] c else if e = 108 then inU [65, 66, 67, 68] c
  else if e = 107 then inU [65, 66, 67, 68, 69] c else if e = 97 then inU [103, 112] c else c == e

def nxt : List UInt8 → UInt8 → List UInt8 × Bool
  | [], _ => ([], false)
  | e :: r, c =>
    if e = 66 then match opnL c with
      | some more => (more ++ e :: r, true)
      | none => nxt r c
    else if e = 109 then (66 :: r, c == 124)
    else (r, stB e c)

def wholeF (f : List UInt8) : Bool := match f with | [] => false | e :: r => e == 66 && r.all (· == 109)

/-- The form behind k bytes. -/
def fw (p : List UInt8) : Nat → Option (List UInt8)
  | 0 => some [66, 109, 109, 109]
  | k + 1 => match fw p k, p[k]? with
    | some f, some c => if (nxt f c).2 then some (nxt f c).1 else none
    | _, _ => none

def sizeU (c : UInt8) : Nat := if inU [103, 112, 105, 91, 60] c then 2 else 1

/-- The walk by what belongs together: the place, the locks that are held (the last taken last), the thread, the marks. -/
structure TS where
  i : Nat
  now : List UInt8
  th : Int
  mks : List MK

def heldU (now : List UInt8) (p : List UInt8) (i : Nat) : List UInt8 :=
  match p[i]? with
  | none => now
  | some c => if c = 91 ∨ c = 60 then now ++ [(p[i + 1]?).getD 0] else if c = 93 ∨ c = 62 then now.dropLast else now

def mkN (kind place th num : Int) (now : List UInt8) : MK := ⟨kind, place, th, num, inU now 65, inU now 66, inU now 67, inU now 68, inU now 69⟩

def tstep (p : List UInt8) (t : TS) : TS :=
  match p[t.i]? with
  | none => t
  | some c =>
    ⟨t.i + sizeU c, heldU t.now p t.i, if c = 124 then t.th + 1 else t.th,
      if c = 91 ∨ c = 60 then t.mks ++ [mkN 3 t.i t.th (((p[t.i + 1]?).getD 0).toNat - 65) t.now]
      else if c = 103 ∨ c = 112 then t.mks ++ [mkN (if c = 112 then 2 else 1) t.i t.th (((p[t.i + 1]?).getD 0).toNat - 120) t.now]
      else t.mks⟩

def tw (p : List UInt8) : Nat → TS
  | 0 => ⟨0, [], 1, []⟩
  | k + 1 => if (tw p k).i < p.length then tstep p (tw p k) else tw p k

end Go.Proofs.Ytnpkambjlfkhgaa
