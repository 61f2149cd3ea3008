import PyProof.Rows.All
import Wide.All
import OpenK.AllK
import Wide.FinOn
import PySem.Challenge.RW_allislands_k03_whole_directions_in_order
import HandS.ForMost
import HandS.ForExc
import PyProof.ReprReads
import PyProof.ReprBulk
import HandS.Lambda
import HandS.Deep
import HandS.Gcd
import HandS.Wide
import HandS.TupMul
import HandS.TupAny
import HandS.IsInst
import HandS.More
import HandS.ExcInit
import HandS.TryMany
import HandS.ExcField
import HandS.ExcIs
import HandS.TupSets
import KE.SortData
import PyProof.TupleOfSeq
import HandS.Style
import PyProof.StrHeap
import HandS.EndTab
import PyProof.Rows.ReprOcc
import KE.KStateDown
import HandS.Head3
import HandS.HeadHook4
import HandS.Words
set_option Elab.async false
section
namespace PySem
mutual
/-- the very same datum -/
def PyData.same : PyData → PyData → Bool
  | .none, .none => true
  | .bool a, .bool b => a == b
  | .int a, .int b => decide (a = b)
  | .str a, .str b => decide (a = b)
  | .list xs, .list ys => PyData.sames xs ys
  | .tuple xs, .tuple ys => PyData.sames xs ys
  | _, _ => false
def PyData.sames : List PyData → List PyData → Bool
  | [], [] => true
  | x :: xs, y :: ys => PyData.same x y && PyData.sames xs ys
  | _, _ => false
end
mutual
theorem PyData.same_eq : ∀ x y : PyData, PyData.same x y = true → x = y := by
  intro x y h
  cases x <;> cases y <;> simp only [PyData.same, Bool.false_eq_true, beq_iff_eq, decide_eq_true_eq] at h
  all_goals first
    | rfl
    | (subst h; rfl)
    | (rw [PyData.sames_eq _ _ h])
theorem PyData.sames_eq : ∀ xs ys : List PyData, PyData.sames xs ys = true → xs = ys := by
  intro xs ys h
  cases xs <;> cases ys <;> simp only [PyData.sames, Bool.false_eq_true, Bool.and_eq_true] at h
  · rfl
  · rw [PyData.same_eq _ _ h.1, PyData.sames_eq _ _ h.2]
end
end PySem

end
section
namespace Ci
open PySem

/-- what a name may hold: a datum, a thing that may change (its number), the script -/
inductive W where
  | d (p : PyData)
  | ref (n : Nat)
  | scr (ds : List PyData)

/-- things that may change -/
inductive O where
  | lst (ds : List PyData)
  | dK (kvs : List (L2.Key × W))
  | dT (kvs : List (List L2.Key × W))
  | dead

/-- an outcome: a value, an error (its class's number, its field), or nothing that is told -/
inductive R (α : Type) where
  | ok (x : α) (S : List O)
  | err (c : Nat) (f : PyData) (S : List O)
  | stuck

@[inline] def R.bind {α β : Type} (r : R α) (k : α → List O → R β) : R β := match r with
  | .ok x S => k x S
  | .err c f S => .err c f S
  | .stuck => .stuck

inductive BOp | add | sub | mul | fdiv | mod | pow | band | bor | shl
  deriving DecidableEq
inductive COp | lt | le | gt | ge | eq | ne | isin | notin | isN | notN
  deriving DecidableEq
inductive Ty | int | bool | tup | str | lst
  deriving DecidableEq
inductive P1 | len | int_ | tuple_ | list_ | max_ | min_ | sum_ | sorted_ | repr_
  deriving DecidableEq
inductive P2 | max2 | min2 | gcd | comb
  deriving DecidableEq

/-- how an item of a walk is named: one slot, or a tuple of slots -/
inductive Tg | one (i : Nat) | tup (is : List Nat)

inductive C where
  | var (i : Nat)
  | cst (p : PyData)
  | tup (es : List C)
  | lst (m : Bool) (es : List C)
  | dict (ks : List Str) (es : List C)
  | bin (o : BOp) (a b : C)
  | neg (a : C)
  | cmp (o : COp) (a b : C)
  | chain (o p : COp) (a b c : C)
  | and_ (a b : C)
  | or_ (a b : C)
  | not_ (a : C)
  | ife (t a b : C)
  | call (f : Nat) (es : List C)
  | p1 (p : P1) (a : C)
  | p2 (p : P2) (a b : C)
  | isa (t : Ty) (a : C)
  | idx (a i : C)
  | dget (a i : C)
  | slc (a : C) (lo hi : Option C)
  | rev (a : C)
  | comp (m : Bool) (own : List Nat) (tg : Tg) (it : C) (t : Option C) (e : C)
  | range1 (a : C)
  | range2 (a b : C)
  | lam (f : Nat) (b : C)
  | sortSet (a : C)
  | act

/-- what a suite of an except clause makes: texts, the error's field, whether the error is of a class -/
inductive HI | txt (s : Str) | fld | isc (c : Nat)
structure Hd where
  cls : Nat
  nm : Nat
  to : Option Nat
  items : List HI

inductive S where
  | set (i : Nat) (e : C)
  | unp (is : List Nat) (e : C)
  | par (i j : Nat) (a b : C)
  | sub (a i e : C)
  | dput (a i e : C)
  | aug (i : Nat) (o : BOp) (e : C)
  | app (a e : C)
  | ins (a i e : C)
  | ex (e : C)
  | ite (t : C) (a b : List S)
  | for_ (tg : Tg) (it : C) (b : List S)
  | while_ (t : C) (b : List S)
  | ret (e : C)
  | raise (c : Nat) (e : Option C)
  | try_ (b : List S) (hs : List Hd)
  | frz (i : Nat)
  | pass

abbrev Ev := List (Option W)

inductive SR where
  | next (ρ : Ev) (S : List O)
  | ret (w : W) (S : List O)
  | err (c : Nat) (f : PyData) (ρ : Ev) (S : List O)
  | stuck

def smallI (i : Int) : Bool := decide (-(2 ^ 64) < i ∧ i < 2 ^ 64)
def bop : BOp → PyData → PyData → Option PyData
  | .add, .int i, .int j => some (.int (i + j))
  | .add, .list a, .list b => if a.length + b.length ≤ 100000 then some (.list (a ++ b)) else none
  | .add, .tuple a, .tuple b => if a.length + b.length ≤ 100000 then some (.tuple (a ++ b)) else none
  | .sub, .int i, .int j => some (.int (i - j))
  | .mul, .int i, .int j => if smallI i || smallI j then some (.int (i * j)) else none
  | .mul, .tuple a, .int j => if a.isEmpty = false ∧ 2 ≤ j ∧ j ≤ 1000 ∧ a.length ≤ 100 then some (.tuple (List.replicate j.toNat a).flatten) else none
  | .mul, .list a, .int j => if 0 ≤ j ∧ j ≤ 1000 ∧ a.length ≤ 100 then some (.list (List.replicate j.toNat a).flatten) else none
  | .fdiv, .int i, .int j => if j ≠ 0 ∧ j.natAbs < 1073741824 then some (.int (i.fdiv j)) else none
  | .mod, .int i, .int j => if j ≠ 0 then some (.int (i.fmod j)) else none
  | .pow, .int i, .int j => if 0 ≤ j ∧ j ≤ 1000 ∧ i.natAbs < 2 ^ 64 then some (.int (i ^ j.toNat)) else none
  | _, _, _ => none

def ints2 (f : Int → Int → Bool) : PyData → PyData → Option Bool
  | .int i, .int j => some (f i j)
  | _, _ => none
def eqD (x y : PyData) : Option Bool := if (SeqAt.shaped x && SeqAt.shaped y) = true then some (PyData.eqv x y) else none

def isaD : Ty → PyData → Bool
  | .int, .int _ => true
  | .int, .bool _ => true
  | .bool, .bool _ => true
  | .tup, .tuple _ => true
  | .str, .str _ => true
  | .lst, .list _ => true
  | _, _ => false

def atD (xs : List PyData) (i : Int) : Option PyData := L2.atI xs i
end Ci

end
section
namespace Ci
open PySem

abbrev FnT := Nat → List W → List O → R W
abbrev ActT := List O → R W

def putAt (i : Nat) (w : W) (ρ : Ev) : Ev := ρ.set i (some w)
def wipeE (ρ : Ev) : List Nat → Ev
  | [] => ρ
  | v :: vs => (wipeE ρ vs).set v none

def putMany : List Nat → List PyData → Ev → Option Ev
  | [], [], ρ => some ρ
  | i :: is, x :: xs, ρ => putMany is xs (putAt i (.d x) ρ)
  | _, _, _ => none

def aim : Tg → PyData → Ev → Option Ev
  | .one i, x, ρ => some (putAt i (.d x) ρ)
  | .tup is, .tuple xs, ρ => putMany is xs ρ
  | .tup _, _, _ => none

/-- the items that a walk meets -/
def itemsOf : PyData → Option (List PyData)
  | .tuple xs => some xs
  | .list xs => some xs
  | _ => none

def toKey : PyData → Option L2.Key
  | .int i => some (.inl i)
  | .str s => some (.inr s)
  | _ => none


def ok (p : PyData) (S : List O) : R W := .ok (.d p) S
def getK {κ : Type} [DecidableEq κ] (kvs : List (κ × W)) (k : κ) : Option W := (kvs.find? fun kv => decide (kv.1 = k)).map (·.2)
def setK {κ : Type} [DecidableEq κ] (kvs : List (κ × W)) (k : κ) (w : W) : List (κ × W) :=
  if (kvs.any fun kv => decide (kv.1 = k)) = true then kvs.map (fun kv => if kv.1 = k then (kv.1, w) else kv) else kvs ++ [(k, w)]
def okO (p : Option PyData) (S : List O) : R W := match p with
  | some p => .ok (.d p) S
  | none => .stuck
def okB (p : Option Bool) (S : List O) : R W := match p with
  | some p => .ok (.d (.bool p)) S
  | none => .stuck

/-- a list or a tuple of ints -/
def intsOf : List PyData → Option (List Int)
  | [] => some []
  | .int i :: r => (intsOf r).map (i :: ·)
  | _ => none

/-- the items of a list or a tuple -/
def seqOf (w : W) (S : List O) : Option (List PyData) := match w with
  | .d (.list xs) => some xs
  | .d (.tuple xs) => some xs
  | .ref n => match S[n]? with
    | some (.lst xs) => some xs
    | _ => none
  | .scr xs => some xs
  | _ => none

/-- the items of a list -/
def lstOf (w : W) (S : List O) : Option (List PyData) := match w with
  | .d (.list xs) => some xs
  | .ref n => match S[n]? with
    | some (.lst xs) => some xs
    | _ => none
  | _ => none
def maxI : Int → List Int → Int
  | m, [] => m
  | m, x :: r => maxI (if x > m then x else m) r
def minI : Int → List Int → Int
  | m, [] => m
  | m, x :: r => minI (if x < m then x else m) r

/-- pairs of ints in their order, each once -/
def pairLt (a b : Int × Int) : Bool := decide (a.1 < b.1) || (decide (a.1 = b.1) && decide (a.2 < b.2))
def pairLe (a b : Int × Int) : Bool := !pairLt b a
def pairOf : PyData → Option (Int × Int)
  | .tuple [.int i, .int j] => some (i, j)
  | _ => none
def pairD (p : Int × Int) : PyData := .tuple [.int p.1, .int p.2]
mutual
/-- a datum whose text is told: no dicts, ints that are not too long -/
def litD : PyData → Bool
  | .none => true
  | .bool _ => true
  | .int i => decide (i.natAbs.log2 < 1920)
  | .str x => x.cps.toList.all fun c => decide (c < 16 ^ 8)
  | .list xs => litDs xs
  | .tuple xs => litDs xs
  | .dict _ => false
def litDs : List PyData → Bool
  | [] => true
  | x :: xs => litD x && litDs xs
end
def isSeqD : PyData → Bool
  | .list _ => true
  | .tuple _ => true
  | _ => false
def reprD (p : PyData) : Option PyData := if isSeqD p = true ∧ litD p = true ∧ p.bulk ≤ 8000 ∧ p.depth ≤ 60 then some (.str p.shown) else none
def prim1 (p : P1) (w : W) (S : List O) : R W := match p with
  | .len => match w with
    | .d (.str s) => if s.length ≤ 100000 then ok (.int s.length) S else .stuck
    | w => match seqOf w S with
      | some xs => ok (.int xs.length) S
      | none => .stuck
  | .int_ => match w with
    | .d (.int i) => ok (.int i) S
    | _ => .stuck
  | .tuple_ => match w with
    | .d (.tuple xs) => ok (.tuple xs) S
    | .d (.list xs) => ok (.tuple xs) S
    | .ref n => match S[n]? with
      | some (.lst xs) => ok (.tuple xs) S
      | _ => .stuck
    | _ => .stuck
  | .list_ => match seqOf w S with
    | some xs => ok (.list xs) S
    | none => .stuck
  | .max_ => match (lstOf w S).bind intsOf with
    | some (x :: r) => ok (.int (maxI x r)) S
    | _ => .stuck
  | .min_ => match (lstOf w S).bind intsOf with
    | some (x :: r) => ok (.int (minI x r)) S
    | _ => .stuck
  | .sum_ => match (lstOf w S).bind intsOf with
    | some r => ok (.int r.sum) S
    | _ => .stuck
  | .sorted_ => match (seqOf w S).bind (·.mapM pairOf) with
    | some ps => if ps.length ≤ 100000 then ok (.list ((ps.mergeSort pairLe).map pairD)) S else .stuck
    | none => .stuck
  | .repr_ => match w with
    | .d p => okO (reprD p) S
    | _ => .stuck

def twoInts : W → W → Option (Int × Int)
  | .d (.int i), .d (.int j) => some (i, j)
  | _, _ => none
def p2I (p : P2) (i j : Int) : Option Int := match p with
  | .max2 => some (if j > i then j else i)
  | .min2 => some (if j < i then j else i)
  | .gcd => some ((Nat.gcd i.natAbs j.natAbs : Nat) : Int)
  | .comb => none
def prim2 (p : P2) (a b : W) (S : List O) : R W := match twoInts a b with
  | some (i, j) => match p2I p i j with
    | some k => ok (.int k) S
    | none => .stuck
  | none => .stuck

def index (a i : W) (S : List O) : R W := match seqOf a S, i with
  | some xs, .d (.int i) => okO (atD xs i) S
  | _, _ => .stuck
/-- d[k] -/
def dgetW (a i : W) (S : List O) : R W := match a, i with
  | .ref n, .d k => match S[n]? with
    | some (.dK kvs) => match toKey k with
      | some k => match getK kvs k with
        | some w => .ok w S
        | none => .stuck
      | none => .stuck
    | _ => .stuck
  | _, _ => .stuck

def cutD (xs : List PyData) (lo hi : Option Int) : List PyData := (xs.drop (HT.sIx xs.length 0 lo)).take (HT.sIx xs.length xs.length hi - HT.sIx xs.length 0 lo)

def isNone : PyData → Bool
  | .none => true
  | _ => false
def listOf : PyData → Option (List PyData)
  | .list ys => some ys
  | _ => none
def inD (p q : PyData) : Option Bool := match listOf q with
  | some ys => if SeqAt.shaped p && SeqAt.shaped (.list ys) then some (ys.any fun z => PyData.eqv z p) else none
  | none => none
/-- two comparands -/
def cop2 (o : COp) (p q : PyData) : Option Bool := match o with
  | .lt => ints2 (fun i j => decide (i < j)) p q
  | .le => ints2 (fun i j => decide (i ≤ j)) p q
  | .gt => ints2 (fun i j => decide (j < i)) p q
  | .ge => ints2 (fun i j => decide (j ≤ i)) p q
  | .eq => eqD p q
  | .ne => (eqD p q).map (!·)
  | .isin => inD p q
  | .notin => (inD p q).map (!·)
  | .isN => if isNone q then some (isNone p) else none
  | .notN => if isNone q then some (!isNone p) else none
def scrEq (o : COp) (xs : List PyData) (q : PyData) : Option Bool := match o with
  | .eq => eqD (.list xs) q
  | .ne => (eqD (.list xs) q).map (!·)
  | _ => none
def compare2 (o : COp) (x y : W) (S : List O) : R W := match x, y with
  | .d p, .d q => okB (cop2 o p q) S
  | .scr xs, .d q => okB (scrEq o xs q) S
  | _, _ => .stuck
def insP (a : Int × Int) : List (Int × Int) → List (Int × Int)
  | [] => [a]
  | b :: r => if pairLt a b = true then a :: b :: r else if a = b then b :: r else b :: insP a r
def sortP (l : List (Int × Int)) : List (Int × Int) := l.foldr insP []
def sortSet (p : PyData) : Option PyData := match p with
  | .list xs => match xs.mapM pairOf with
    | some ps => if ps.length < 64 then some (.list ((sortP ps).map pairD)) else none
    | none => none
  | _ => none
def sliceW (x : W) (l h : Option Int) (S : List O) : R W := match x with
  | .d (.tuple xs) => ok (.tuple (cutD xs l h)) S
  | x => match seqOf x S with
    | some xs => ok (.list (cutD xs l h)) S
    | none => .stuck
/-- a walk's turns within a comprehension -/
def compL (aimF : PyData → Option Ev) (t : Ev → List O → R W) (e : Ev → List O → R W) : List PyData → List PyData → List O → R (List PyData)
  | [], acc, S => .ok acc S
  | x :: xs, acc, S => match aimF x with
    | none => .stuck
    | some ρ => match t ρ S with
      | .ok (.d (.bool true)) S1 => match e ρ S1 with
        | .ok (.d y) S2 => compL aimF t e xs (acc ++ [y]) S2
        | _ => .stuck
      | .ok (.d (.bool false)) S1 => compL aimF t e xs acc S1
      | _ => .stuck

/-- a new thing that may change -/
def newO (o : O) (S : List O) : R W := .ok (.ref S.length) (S ++ [o])
def lstAs (m : Bool) (xs : List PyData) (S : List O) : R W := if m = true then newO (.lst xs) S else ok (.list xs) S

def dataOf : List W → Option (List PyData)
  | [] => some []
  | .d p :: r => (dataOf r).map (p :: ·)
  | _ => none

def rangeD (lo hi : Int) : List PyData := (List.range (hi - lo).toNat).map fun (i : Nat) => PyData.int (lo + (i : Int))

/-- the items of a walked thing, and which list must stand -/
def walkOf (w : W) : Option (List PyData) := match w with
  | .d p => itemsOf p
  | _ => none

def binW (o : BOp) (x y : W) (S : List O) : R W := match x, y with
  | .d p, .d q => okO (bop o p q) S
  | _, _ => .stuck
def negW (x : W) (S : List O) : R W := match x with
  | .d (.int i) => ok (.int (-i)) S
  | _ => .stuck
def onB (x : W) (a b : R W) : R W := match x with
  | .d (.bool true) => a
  | .d (.bool false) => b
  | _ => .stuck
def tupW (ws : List W) (S : List O) : R W := match dataOf ws with
  | some xs => if xs.length ≤ 100000 then ok (.tuple xs) S else .stuck
  | none => .stuck
def lstW (m : Bool) (ws : List W) (S : List O) : R W := match dataOf ws with
  | some xs => if xs.length ≤ 100000 then lstAs m xs S else .stuck
  | none => .stuck
def dictW (ks : List Str) (ws : List W) (S : List O) : R W :=
  if ws.length = ks.length ∧ 0 < ks.length ∧ ks.length ≤ 15 ∧ ks.Nodup then newO (.dK ((ks.map Sum.inr).zip ws)) S else .stuck
def isaW (t : Ty) (x : W) (S : List O) : R W := match x with
  | .d p => ok (.bool (isaD t p)) S
  | _ => .stuck
def revW (x : W) (S : List O) : R W := match x with
  | .d (.tuple xs) => ok (.tuple xs.reverse) S
  | _ => .stuck
def sortSetW (x : W) (S : List O) : R W := match x with
  | .d p => okO (sortSet p) S
  | _ => .stuck
def range1W (x : W) (S : List O) : R W := match x with
  | .d (.int i) => if -1000000 < i ∧ i < 1000000 then ok (.list (rangeD 0 i)) S else .stuck
  | _ => .stuck
def range2W (x y : W) (S : List O) : R W := match x, y with
  | .d (.int i), .d (.int j) => if -1000000 < i ∧ i < 1000000 ∧ -1000000 < j ∧ j < 1000000 then ok (.list (rangeD i j)) S else .stuck
  | _, _ => .stuck
def toInt (w : W) (S : List O) : R (Option Int) := match w with
  | .d (.int i) => .ok (some i) S
  | _ => .stuck
def overW (w : W) (S : List O) (k : List PyData → R W) : R W := match walkOf w with
  | some xs => if xs.length ≤ 100000 then k xs else .stuck
  | none => .stuck
def varW (o : Option (Option W)) (S : List O) : R W := match o with
  | some (some w) => .ok w S
  | _ => .stuck

mutual
def ev (F : FnT) (L : Nat → ActT → List O → R W) (A : ActT) : C → Ev → List O → R W
  | .var i, ρ, S => varW ρ[i]? S
  | .cst p, _, S => ok p S
  | .tup es, ρ, S => (evs F L A es ρ S).bind fun ws S1 => tupW ws S1
  | .lst m es, ρ, S => (evs F L A es ρ S).bind fun ws S1 => lstW m ws S1
  | .dict ks es, ρ, S => (evs F L A es ρ S).bind fun ws S1 => dictW ks ws S1
  | .bin o a b, ρ, S => (ev F L A a ρ S).bind fun x S1 => (ev F L A b ρ S1).bind fun y S2 => binW o x y S2
  | .neg a, ρ, S => (ev F L A a ρ S).bind fun x S1 => negW x S1
  | .cmp o a b, ρ, S => (ev F L A a ρ S).bind fun x S1 => (ev F L A b ρ S1).bind fun y S2 => compare2 o x y S2
  | .chain o p a b c, ρ, S => (ev F L A a ρ S).bind fun x S1 => (ev F L A b ρ S1).bind fun y S2 => (compare2 o x y S2).bind fun r S3 => onB r ((ev F L A c ρ S3).bind fun z S4 => compare2 p y z S4) (ok (.bool false) S3)
  | .and_ a b, ρ, S => (ev F L A a ρ S).bind fun x S1 => onB x (ev F L A b ρ S1) (ok (.bool false) S1)
  | .or_ a b, ρ, S => (ev F L A a ρ S).bind fun x S1 => onB x (ok (.bool true) S1) (ev F L A b ρ S1)
  | .not_ a, ρ, S => (ev F L A a ρ S).bind fun x S1 => onB x (ok (.bool false) S1) (ok (.bool true) S1)
  | .ife t a b, ρ, S => (ev F L A t ρ S).bind fun x S1 => onB x (ev F L A a ρ S1) (ev F L A b ρ S1)
  | .call f es, ρ, S => (evs F L A es ρ S).bind fun ws S1 => F f ws S1
  | .p1 p a, ρ, S => (ev F L A a ρ S).bind fun x S1 => prim1 p x S1
  | .p2 p a b, ρ, S => (ev F L A a ρ S).bind fun x S1 => (ev F L A b ρ S1).bind fun y S2 => prim2 p x y S2
  | .isa t a, ρ, S => (ev F L A a ρ S).bind fun x S1 => isaW t x S1
  | .idx a i, ρ, S => (ev F L A a ρ S).bind fun x S1 => (ev F L A i ρ S1).bind fun y S2 => index x y S2
  | .dget a i, ρ, S => (ev F L A a ρ S).bind fun x S1 => (ev F L A i ρ S1).bind fun y S2 => dgetW x y S2
  | .slc a lo hi, ρ, S => (ev F L A a ρ S).bind fun x S1 => (evo F L A lo ρ S1).bind fun l S2 => (evo F L A hi ρ S2).bind fun h S3 => sliceW x l h S3
  | .rev a, ρ, S => (ev F L A a ρ S).bind fun x S1 => revW x S1
  | .comp m own tg it t e, ρ, S => (ev F L A it ρ S).bind fun w S1 => overW w S1 fun xs =>
      (compL (fun x => aim tg x (wipeE ρ own)) (fun ρ1 S2 => evt F L A t ρ1 S2) (fun ρ1 S2 => ev F L A e ρ1 S2) xs [] S1).bind fun ys S2 => lstAs m ys S2
  | .range1 a, ρ, S => (ev F L A a ρ S).bind fun x S1 => range1W x S1
  | .range2 a b, ρ, S => (ev F L A a ρ S).bind fun x S1 => (ev F L A b ρ S1).bind fun y S2 => range2W x y S2
  | .lam f b, ρ, S => L f (fun S1 => ev F (fun _ _ _ => .stuck) (fun _ => .stuck) b ρ S1) S
  | .sortSet a, ρ, S => (ev F L A a ρ S).bind fun x S1 => sortSetW x S1
  | .act, _, S => A S
def evs (F : FnT) (L : Nat → ActT → List O → R W) (A : ActT) : List C → Ev → List O → R (List W)
  | [], _, S => .ok [] S
  | c :: cs, ρ, S => (ev F L A c ρ S).bind fun w S1 => (evs F L A cs ρ S1).bind fun ws S2 => .ok (w :: ws) S2
def evo (F : FnT) (L : Nat → ActT → List O → R W) (A : ActT) : Option C → Ev → List O → R (Option Int)
  | none, _, S => .ok none S
  | some c, ρ, S => (ev F L A c ρ S).bind fun w S1 => toInt w S1
def evt (F : FnT) (L : Nat → ActT → List O → R W) (A : ActT) : Option C → Ev → List O → R W
  | none, _, S => ok (.bool true) S
  | some c, ρ, S => ev F L A c ρ S
end
end Ci

end
section
namespace Ci
open PySem

/-- a walk's turns in a for -/
def forL (aimF : PyData → Ev → Option Ev) (b : Ev → List O → SR) : List PyData → Ev → List O → SR
  | [], ρ, S => .next ρ S
  | x :: xs, ρ, S => match aimF x ρ with
    | none => .stuck
    | some ρ1 => match b ρ1 S with
      | .next ρ2 S2 => forL aimF b xs ρ2 S2
      | r => r

def whileL (t : Ev → List O → R W) (b : Ev → List O → SR) : Nat → Ev → List O → SR
  | 0, _, _ => .stuck
  | n + 1, ρ, S => match t ρ S with
    | .ok (.d (.bool true)) S1 => match b ρ S1 with
      | .next ρ2 S2 => whileL t b n ρ2 S2
      | r => r
    | .ok (.d (.bool false)) S1 => .next ρ S1
    | .ok _ _ => .stuck
    | .err c f S1 => .err c f ρ S1
    | .stuck => .stuck

def R.st (r : R W) (ρ : Ev) (k : W → List O → SR) : SR := match r with
  | .ok w S => k w S
  | .err c f S => .err c f ρ S
  | .stuck => .stuck

/-- a[i] = w, a list -/
def putIx (a i w : W) (S : List O) : Option (List O) := match a, i, w with
  | .ref n, .d (.int i), .d p => match S[n]? with
    | some (.lst xs) => match L2.ixN xs.length i with
      | some j => some (S.set n (.lst (xs.set j p)))
      | none => none
    | _ => none
  | _, _, _ => none
/-- d[k] = w -/
def putK (a i w : W) (S : List O) : Option (List O) := match a, i with
  | .ref n, .d k => match S[n]? with
    | some (.dK kvs) => match toKey k with
      | some k => if kvs.length < 100000 then some (S.set n (.dK (setK kvs k w))) else none
      | none => none
    | _ => none
  | _, _ => none

/-- the program's classes of errors by their numbers: whether one is beneath another one, whether it has a field -/
structure Cls where
  sub : Nat → Nat → Option Bool
  hasF : Nat → Bool

/-- an item of a suite's tuple, the error being of the class c with the field f -/
def itemOf (G : Cls) (c : Nat) (f : PyData) : HI → Option PyData
  | .txt s => some (.str s)
  | .fld => if G.hasF c = true then some f else none
  | .isc k => (G.sub c k).map .bool
def itemsD (G : Cls) (c : Nat) (f : PyData) : List HI → Option (List PyData)
  | [] => some []
  | h :: r => match itemOf G c f h, itemsD G c f r with
    | some x, some xs => some (x :: xs)
    | _, _ => none

/-- a suite: slot = (item, ..), behind it the error's name holds nothing -/
def suiteS (h : Hd) (ρ : Ev) (S : List O) (xs : Option (List PyData)) : SR := match xs, h.to with
  | some xs, some i => if i < ρ.length ∧ h.nm < ρ.length ∧ i ≠ h.nm ∧ xs.length ≤ 1000 then .next ((putAt i (.d (.tuple xs)) ρ).set h.nm none) S else .stuck
  | _, _ => .stuck
def catch_ (G : Cls) (c : Nat) (f : PyData) (ρ : Ev) (S : List O) : List Hd → SR
  | [] => .stuck
  | h :: hs => match G.sub c h.cls with
    | some true => if c = h.cls then suiteS h ρ S (itemsD G c f h.items) else .stuck
    | some false => catch_ G c f ρ S hs
    | none => .stuck

/-- a list that may change is to change no more -/
def frzW (ρ : Ev) (i : Nat) (σ : List O) : SR := match ρ[i]? with
  | some (some (.ref n)) => match σ[n]? with
    | some (.lst xs) => .next (putAt i (.d (.list xs)) ρ) (σ.set n .dead)
    | _ => .stuck
  | _ => .stuck
theorem frzW_or (ρ : Ev) (i : Nat) (σ : List O) : frzW ρ i σ = .stuck ∨ ∃ n xs, ρ[i]? = some (some (.ref n)) ∧ σ[n]? = some (.lst xs) ∧ frzW ρ i σ = .next (putAt i (.d (.list xs)) ρ) (σ.set n .dead) := by
  unfold frzW
  split
  · rename_i n hn
    split
    · rename_i xs hx
      exact .inr ⟨n, xs, hn, hx, rfl⟩
    · exact .inl rfl
  · exact .inl rfl
def unpS (is : List Nat) (ρ : Ev) (w : W) (σ1 : List O) : SR := match w with
    | .d (.tuple xs) => match putMany is xs ρ with
      | some ρ1 => .next ρ1 σ1
      | none => .stuck
    | _ => .stuck
def storeS (ρ : Ev) (r : Option (List O)) : SR := match r with
    | some σ4 => .next ρ σ4
    | none => .stuck
def augI (o : BOp) (x y : Int) : Option Int := match o with
  | .add => some (x + y)
  | .sub => some (x - y)
  | _ => none
def augS (ρ : Ev) (i : Nat) (o : BOp) (p : W) (w : W) (σ1 : List O) : SR := match twoInts p w with
  | some (x, y) => match augI o x y with
    | some z => .next (putAt i (.d (.int z)) ρ) σ1
    | none => .stuck
  | none => .stuck
def appW (x w : W) (σ : List O) : Option (List O) := match x, w with
    | .ref n, .d p => match σ[n]? with
      | some (.lst xs) => if xs.length < 100000 then some (σ.set n (.lst (xs ++ [p]))) else none
      | _ => none
    | _, _ => none
def insW (x y w : W) (σ : List O) : Option (List O) := match x, y, w with
    | .ref n, .d (.int k), .d p => match σ[n]? with
      | some (.lst xs) => if xs.length < 100000 ∧ 0 ≤ k ∧ k ≤ xs.length then some (σ.set n (.lst (xs.take k.toNat ++ p :: xs.drop k.toNat))) else none
      | _ => none
    | _, _, _ => none
/-- a list stands there -/
def lstS (x : W) (σ : List O) (k : SR) : SR := match x with
    | .ref n => match σ[n]? with
      | some (.lst _) => k
      | _ => .stuck
    | _ => .stuck
theorem lstS_or (x : W) (σ : List O) (k : SR) : lstS x σ k = .stuck ∨ ∃ n xs, x = .ref n ∧ σ[n]? = some (.lst xs) ∧ lstS x σ k = k := by
  unfold lstS
  split
  · rename_i n
    split
    · rename_i xs hx
      exact .inr ⟨n, xs, rfl, hx, rfl⟩
    · exact .inl rfl
  · exact .inl rfl
def onS (w : W) (a b : SR) : SR := match w with
    | .d (.bool true) => a
    | .d (.bool false) => b
    | _ => .stuck
def errS (c : Nat) (ρ : Ev) (w : W) (σ : List O) : SR := match w with
      | .d p => .err c p ρ σ
      | _ => .stuck
def thenS (r : SR) (k : Ev → List O → SR) : SR := match r with
    | .next ρ1 σ1 => k ρ1 σ1
    | x => x
def elseS (r : SR) (k : Nat → PyData → Ev → List O → SR) : SR := match r with
    | .err c f ρ1 σ1 => k c f ρ1 σ1
    | r => r
def walkS (w : W) (k : List PyData → SR) : SR := match walkOf w with
    | none => .stuck
    | some xs => k xs

mutual
def ex (G : Cls) (F : FnT) (L : Nat → ActT → List O → R W) (A : ActT) : S → Ev → List O → SR
  | .set i e, ρ, σ => (ev F L A e ρ σ).st ρ fun w σ1 => .next (putAt i w ρ) σ1
  | .unp is e, ρ, σ => (ev F L A e ρ σ).st ρ fun w σ1 => unpS is ρ w σ1
  | .par i j a b, ρ, σ => (ev F L A a ρ σ).st ρ fun x σ1 => (ev F L A b ρ σ1).st ρ fun y σ2 => .next (putAt j y (putAt i x ρ)) σ2
  | .sub a i e, ρ, σ => (ev F L A e ρ σ).st ρ fun w σ1 => (ev F L A a ρ σ1).st ρ fun x σ2 => (ev F L A i ρ σ2).st ρ fun y σ3 => storeS ρ (putIx x y w σ3)
  | .dput a i e, ρ, σ => (ev F L A e ρ σ).st ρ fun w σ1 => (ev F L A a ρ σ1).st ρ fun x σ2 => (ev F L A i ρ σ2).st ρ fun y σ3 => storeS ρ (putK x y w σ3)
  | .aug i o e, ρ, σ => (varW ρ[i]? σ).st ρ fun p σ0 => (ev F L A e ρ σ0).st ρ fun w σ1 => augS ρ i o p w σ1
  | .app a e, ρ, σ => (ev F L A a ρ σ).st ρ fun x σ1 => lstS x σ1 ((ev F L A e ρ σ1).st ρ fun w σ2 => storeS ρ (appW x w σ2))
  | .ins a i e, ρ, σ => (ev F L A a ρ σ).st ρ fun x σ1 => lstS x σ1 ((ev F L A i ρ σ1).st ρ fun y σ2 => (ev F L A e ρ σ2).st ρ fun w σ3 => storeS ρ (insW x y w σ3))
  | .ex e, ρ, σ => (ev F L A e ρ σ).st ρ fun _ σ1 => .next ρ σ1
  | .ite t a b, ρ, σ => (ev F L A t ρ σ).st ρ fun w σ1 => onS w (exs G F L A a ρ σ1) (exs G F L A b ρ σ1)
  | .for_ tg it b, ρ, σ => (ev F L A it ρ σ).st ρ fun w σ1 => walkS w fun xs => forL (aim tg) (fun ρ1 σ2 => exs G F L A b ρ1 σ2) xs ρ σ1
  | .while_ t b, ρ, σ => whileL (fun ρ1 σ1 => ev F L A t ρ1 σ1) (fun ρ1 σ2 => exs G F L A b ρ1 σ2) 1000000 ρ σ
  | .ret e, ρ, σ => (ev F L A e ρ σ).st ρ fun w σ1 => .ret w σ1
  | .raise c e, ρ, σ => match e with
    | none => .err c .none ρ σ
    | some e => (ev F L A e ρ σ).st ρ fun w σ1 => errS c ρ w σ1
  | .try_ b hs, ρ, σ => elseS (exs G F L A b ρ σ) fun c f ρ1 σ1 => catch_ G c f ρ1 σ1 hs
  | .frz i, ρ, σ => frzW ρ i σ
  | .pass, ρ, σ => .next ρ σ
def exs (G : Cls) (F : FnT) (L : Nat → ActT → List O → R W) (A : ActT) : List S → Ev → List O → SR
  | [], ρ, σ => .next ρ σ
  | s :: r, ρ, σ => thenS (ex G F L A s ρ σ) fun ρ1 σ1 => exs G F L A r ρ1 σ1
end

structure Fn where
  np : Nat
  ns : Nat
  body : List S

def SR.out : SR → R W
  | .next _ S => .ok (.d .none) S
  | .ret w S => .ok w S
  | .err c f _ S => .err c f S
  | .stuck => .stuck

/-- an outcome that raises nothing -/
def SR.calm : SR → R W
  | .next _ S => .ok (.d .none) S
  | .ret w S => .ok w S
  | _ => .stuck

def startE (ns : Nat) (ws : List W) : Ev := ws.map some ++ List.replicate (ns - ws.length) none

/-- a def that calls what it got, its one slot in front holding it -/
def lamOf (G : Cls) (tab : Nat → Option Fn) (F : FnT) (f : Nat) (A : ActT) (σ : List O) : R W := match tab f with
  | none => .stuck
  | some fn => if fn.np = 1 then (exs G F (fun _ _ _ => .stuck) A fn.body (List.replicate fn.ns none) σ).calm else .stuck

/-- the n-th depth of calls -/
def runF (G : Cls) (tab : Nat → Option Fn) : Nat → FnT
  | 0, _, _, _ => .stuck
  | n + 1, f, ws, σ => match tab f with
    | none => .stuck
    | some fn => if ws.length = fn.np then (exs G (runF G tab n) (lamOf G tab (runF G tab n)) (fun _ => .stuck) fn.body (startE fn.ns ws) σ).out else .stuck
end Ci

end
section
set_option linter.all false
set_option autoImplicit false
namespace Ci
open PySem L2
/-- the written part that the script may be of -/
class HasK where
  K : PySem.W.Frag
variable [kI : HasK]
/-- the second way of SqL -/
def KLst (K : PySem.W.Frag) (a : Addr) (xs : List V) : Prop := ∃ (o : Obj) (its : Array Value) (n : Nat), K.lookup a = some o ∧ o.cls = .type "list" ∧ o.dict = none ∧ o.data = .seq its n ∧ its.size ≤ sizeLine ∧ Vals xs its.toList

mutual
/-- the value v is the datum; L: the addresses of what may change -/
def Dat (H : Hp) (L : Addr → Prop) : PyData → V → Prop
  | .none, v => v = .non
  | .bool b, v => v = .bl b
  | .int i, v => v = .int i
  | .str s, v => v = .str s
  | .list xs, v => ∃ a vs, v = .ref a ∧ H a = some (.lst vs) ∧ ¬ L a ∧ DatL H L xs vs
  | .tuple xs, v => ∃ a vs, v = .ref a ∧ H a = some (.tup vs) ∧ DatL H L xs vs
  | .dict _, _ => False
def DatL (H : Hp) (L : Addr → Prop) : List PyData → List V → Prop
  | [], vs => vs = []
  | x :: xs, vs => ∃ v r, vs = v :: r ∧ Dat H L x v ∧ DatL H L xs r
end

def LiveS (μ : List Addr) (S : List O) (a : Addr) : Prop := ∃ (n : Nat) (o : O), μ[n]? = some a ∧ S[n]? = some o ∧ o ≠ O.dead

/-- what may change: B, besides: what is being made -/
def Live (B : Addr → Prop) (μ : List Addr) (S : List O) (a : Addr) : Prop := B a ∨ LiveS μ S a

def WR (H : Hp) (μ : List Addr) (L : Addr → Prop) : W → V → Prop
  | .d p, v => Dat H L p v
  | .ref n, v => ∃ a, μ[n]? = some a ∧ v = .ref a
  | .scr xs, v => ∃ a vs, v = .ref a ∧ ((Rd H a (.lst vs) ∧ ¬ L a) ∨ KLst kI.K a vs) ∧ DatL H L xs vs

def KvR {κ : Type} (H : Hp) (μ : List Addr) (L : Addr → Prop) : List (κ × W) → List (κ × V) → Prop
  | [], kv => kv = []
  | p :: r, kv => ∃ v t, kv = (p.1, v) :: t ∧ WR H μ L p.2 v ∧ KvR H μ L r t

def OR (H : Hp) (μ : List Addr) (L : Addr → Prop) (a : Addr) : O → Prop
  | .lst ds => ∃ vs, H a = some (.lst vs) ∧ DatL H L ds vs
  | .dK kvs => ∃ kv, H a = some (.dK kv) ∧ KvR H μ L kvs kv
  | .dT kvs => ∃ kv, H a = some (.dT kv) ∧ KvR H μ L kvs kv
  | .dead => True

structure Rel (T : List (Addr × Str)) (B : Addr → Prop) (μ : List Addr) (S : List O) (H : Hp) : Prop where
  len : μ.length = S.length
  inj : ∀ (i j : Nat) (a : Addr) (oi oj : O), μ[i]? = some a → μ[j]? = some a → S[i]? = some oi → S[j]? = some oj → oi ≠ O.dead → oj ≠ O.dead → i = j
  obj : ∀ (i : Nat) (a : Addr) (o : O), μ[i]? = some a → S[i]? = some o → OR H μ (Live B μ S) a o
  tabs : LamX.Tabs T H
  bl : ∀ a, B a → ∃ vs, H a = some (.lst vs)
  bn : ∀ a, B a → ¬ LiveS μ S a

/-- nothing but a table stands there -/
def NoO (H : Hp) (a : Addr) : Prop := ∀ o, H a = some o → ∃ ps, o = .tbl ps
structure Evo (μ : List Addr) (S : List O) (H : Hp) (μ' : List Addr) (S' : List O) (H' : Hp) : Prop where
  pre : ∀ (n : Nat) (a : Addr), μ[n]? = some a → μ'[n]? = some a
  keep : ∀ a o, H a = some o → ¬ LiveS μ S a → (∀ ps, o ≠ .tbl ps) → H' a = some o
  new : ∀ a, LiveS μ' S' a → LiveS μ S a ∨ NoO H a

theorem NoO.of {H : Hp} {a : Addr} (h : H a = none) : NoO H a := fun o e => by rw [h] at e; cases e
theorem Evo.refl {μ : List Addr} {S : List O} {H : Hp} : Evo μ S H μ S H := ⟨fun _ _ h => h, fun _ _ h _ _ => h, fun _ h => .inl h⟩

section
variable {T : List (Addr × Str)} {B : Addr → Prop} {μ μ1 μ2 : List Addr} {S S1 S2 : List O} {H H1 H2 : Hp}

/-- what is live is a list or a dict -/
theorem Rel.kind (R : Rel T B μ S H) {a : Addr} (l : LiveS μ S a) : (∃ vs, H a = some (.lst vs)) ∨ (∃ kv, H a = some (.dK kv)) ∨ ∃ kv, H a = some (.dT kv) := by
  obtain ⟨n, o, h1, h2, h3⟩ := l
  have q := R.obj n a o h1 h2
  cases o with
  | lst ds => obtain ⟨vs, e, _⟩ := q; exact .inl ⟨vs, e⟩
  | dK kvs => obtain ⟨kv, e, _⟩ := q; exact .inr (.inl ⟨kv, e⟩)
  | dT kvs => obtain ⟨kv, e, _⟩ := q; exact .inr (.inr ⟨kv, e⟩)
  | dead => exact absurd rfl h3
theorem Rel.tupNot (R : Rel T B μ S H) {a : Addr} {vs : List V} (e : H a = some (.tup vs)) : ¬ LiveS μ S a := fun l => by
  rcases R.kind l with ⟨_, q⟩ | ⟨_, q⟩ | ⟨_, q⟩ <;> (rw [e] at q; cases q)
theorem Rel.some_of (R : Rel T B μ S H) {a : Addr} (l : Live B μ S a) : H a ≠ none := fun z => by
  rcases l with l | l
  · obtain ⟨vs, q⟩ := R.bl a l
    rw [z] at q; cases q
  · rcases R.kind l with ⟨_, q⟩ | ⟨_, q⟩ | ⟨_, q⟩ <;> (rw [z] at q; cases q)

theorem Evo.back (E : Evo μ S H μ1 S1 H1) {a : Addr} (h : NoO H1 a) : LiveS μ S a ∨ NoO H a := by
  by_cases l : LiveS μ S a
  · exact .inl l
  · refine .inr fun o e => ?_
    by_cases t : ∃ ps, o = .tbl ps
    · exact t
    · exact h o (E.keep a o e l fun ps z => t ⟨ps, z⟩)
theorem Evo.trans (A : Evo μ S H μ1 S1 H1) (B : Evo μ1 S1 H1 μ2 S2 H2) : Evo μ S H μ2 S2 H2 where
  pre := fun n a h => B.pre n a (A.pre n a h)
  keep := fun a o h nl nt => by
    refine B.keep a o (A.keep a o h nl nt) (fun l => ?_) nt
    rcases A.new a l with z | z
    · exact nl z
    · obtain ⟨ps, q⟩ := z o h
      exact nt ps q
  new := fun a l => by
    rcases B.new a l with z | z
    · exact A.new a z
    · exact A.back z

mutual
theorem Dat.evo {B0 : Addr → Prop} (R : Rel T B0 μ S H) (E : Evo μ S H μ1 S1 H1) : ∀ (p : PyData) (v : V), Dat H (Live B μ S) p v → Dat H1 (Live B μ1 S1) p v
  | .none, v, h => by simpa only [Dat] using h
  | .bool b, v, h => by simpa only [Dat] using h
  | .int i, v, h => by simpa only [Dat] using h
  | .str s, v, h => by simpa only [Dat] using h
  | .list xs, v, h => by
    simp only [Dat] at h ⊢
    obtain ⟨a, vs, e, r, nl, d⟩ := h
    refine ⟨a, vs, e, E.keep a _ r (fun l => nl (.inr l)) (fun ps z => by cases z), ?_, DatL.evo R E xs vs d⟩
    intro l
    rcases l with l | l
    · exact nl (.inl l)
    · rcases E.new a l with z | z
      · exact nl (.inr z)
      · obtain ⟨_, q⟩ := z _ r; cases q
  | .tuple xs, v, h => by
    simp only [Dat] at h ⊢
    obtain ⟨a, vs, e, r, d⟩ := h
    exact ⟨a, vs, e, E.keep a _ r (R.tupNot r) (fun ps z => by cases z), DatL.evo R E xs vs d⟩
  | .dict _, v, h => by simp only [Dat] at h
theorem DatL.evo {B0 : Addr → Prop} (R : Rel T B0 μ S H) (E : Evo μ S H μ1 S1 H1) : ∀ (xs : List PyData) (vs : List V), DatL H (Live B μ S) xs vs → DatL H1 (Live B μ1 S1) xs vs
  | [], vs, h => by simpa only [DatL] using h
  | x :: xs, vs, h => by
    simp only [DatL] at h ⊢
    obtain ⟨v, r, e, h1, h2⟩ := h
    exact ⟨v, r, e, Dat.evo R E x v h1, DatL.evo R E xs r h2⟩
end
theorem WR.evo {B0 : Addr → Prop} (R : Rel T B0 μ S H) (E : Evo μ S H μ1 S1 H1) {w : W} {v : V} (h : WR H μ (Live B μ S) w v) : WR H1 μ1 (Live B μ1 S1) w v := by
  cases w with
  | d p => exact Dat.evo R E p v h
  | ref n => obtain ⟨a, h1, h2⟩ := h; exact ⟨a, E.pre n a h1, h2⟩
  | scr xs =>
    obtain ⟨a, vs, e, r, d⟩ := h
    refine ⟨a, vs, e, ?_, DatL.evo R E xs vs d⟩
    rcases r with ⟨r, nl⟩ | r
    · refine .inl ⟨?_, fun l => ?_⟩
      · rcases r with r | ⟨o, r⟩
        · exact .inl (E.keep a _ r (fun l => nl (.inr l)) (fun ps z => by cases z))
        · exact .inr ⟨o, E.keep a _ r (fun l => nl (.inr l)) (fun ps z => by cases z)⟩
      · rcases l with l | l
        · exact nl (.inl l)
        · rcases E.new a l with z | z
          · exact nl (.inr z)
          · rcases r with r | ⟨o, r⟩ <;> (obtain ⟨_, q⟩ := z _ r; cases q)
    · exact .inr r

/-- the slots -/
structure EnvR (H : Hp) (μ : List Addr) (L : Addr → Prop) (ρ : Ev) (σ : L2.St) : Prop where
  len : σ.length = ρ.length
  at_ : ∀ (i : Nat) (w : W), ρ[i]? = some (some w) → ∃ v, σ[i]? = some (some v) ∧ WR H μ L w v
theorem EnvR.evo {B0 : Addr → Prop} (R : Rel T B0 μ S H) (E : Evo μ S H μ1 S1 H1) {ρ : Ev} {σ : L2.St} (h : EnvR H μ (Live B μ S) ρ σ) : EnvR H1 μ1 (Live B μ1 S1) ρ σ :=
  ⟨h.len, fun i w e => by obtain ⟨v, h1, h2⟩ := h.at_ i w e; exact ⟨v, h1, h2.evo R E⟩⟩
theorem EnvR.put {L : Addr → Prop} {ρ : Ev} {σ : L2.St} (h : EnvR H μ L ρ σ) (i : Nat) {w : W} {v : V} (r : WR H μ L w v) : EnvR H μ L (putAt i w ρ) (σ.set i (some v)) := by
  refine ⟨by simp [putAt, h.len], fun j u e => ?_⟩
  unfold putAt at e
  by_cases hj : i = j
  · subst hj
    by_cases hl : i < ρ.length
    · rw [List.getElem?_set_self hl] at e
      cases e
      exact ⟨v, List.getElem?_set_self (by rw [h.len]; exact hl), r⟩
    · rw [List.getElem?_eq_none (by simpa using Nat.le_of_not_lt hl)] at e
      cases e
  · rw [List.getElem?_set_ne hj] at e
    obtain ⟨v', h1, h2⟩ := h.at_ j u e
    exact ⟨v', by rw [List.getElem?_set_ne hj]; exact h1, h2⟩
theorem EnvR.wipe {L : Addr → Prop} {ρ : Ev} {σ : L2.St} (h : EnvR H μ L ρ σ) : ∀ vs : List Nat, EnvR H μ L (wipeE ρ vs) (L2.wipe σ vs)
  | [] => h
  | n :: vs => by
    have q := EnvR.wipe h vs
    unfold wipeE L2.wipe
    refine ⟨by simp [q.len], fun j u e => ?_⟩
    by_cases hj : n = j
    · subst hj
      by_cases hl : n < (wipeE ρ vs).length
      · rw [List.getElem?_set_self hl] at e; cases e
      · rw [List.getElem?_eq_none (by simpa using Nat.le_of_not_lt hl)] at e; cases e
    · rw [List.getElem?_set_ne hj] at e
      obtain ⟨v', h1, h2⟩ := q.at_ j u e
      exact ⟨v', by rw [List.getElem?_set_ne hj]; exact h1, h2⟩
end

/-- a def: its name, where it stands, what it is, its parameters, whether it may be called by all their names -/
structure FI where
  name : Str
  addr : Addr
  fd : FuncData
  ps : List Str
  kw : Bool
  gu : Bool
/-- the classes of errors, the tables, the defs -/
structure Glob where
  T : List (Addr × Str)
  fi : Nat → Option FI
  clsA : Nat → Addr
  fldN : Nat → Option Str

def ErrR (G : Glob) (H : Hp) (L : Addr → Prop) (c : Nat) (f : PyData) (cls : Value) (d : Option Addr) : Prop :=
  cls = .ref (G.clsA c) ∧ match G.fldN c with
    | none => d = none
    | some n => ∃ dd v, d = some dd ∧ H dd = some (.xd [(n, v)]) ∧ Dat H L f v

def OKE (G : Glob) (B : Addr → Prop) (r : R W) (μ : List Addr) (S : List O) (H : Hp) (E : XK) (Q : VK) : Prop := match r with
  | .ok w S' => ∀ v μ' H', Evo μ S H μ' S' H' → Rel G.T B μ' S' H' → WR H' μ' (Live B μ' S') w v → Q v H'
  | .err c f S' => ∀ cls d μ' H', Evo μ S H μ' S' H' → Rel G.T B μ' S' H' → ErrR G H' (Live B μ' S') c f cls d → E cls d H'
  | .stuck => False

/-- an outcome and what goes on behind it -/
theorem OKE.bind {G : Glob} {B : Addr → Prop} {r : R W} {k : W → List O → R W} {μ : List Addr} {S : List O} {H : Hp} {E : XK} {Q : VK} {P : VK}
    (h : OKE G B (r.bind k) μ S H E Q)
    (hk : ∀ w S1 v μ1 H1, Evo μ S H μ1 S1 H1 → Rel G.T B μ1 S1 H1 → WR H1 μ1 (Live B μ1 S1) w v → OKE G B (k w S1) μ1 S1 H1 E Q → P v H1) : OKE G B r μ S H E P := by
  cases r with
  | ok w S1 =>
    intro v μ1 H1 e1 r1 w1
    refine hk w S1 v μ1 H1 e1 r1 w1 ?_
    have h : OKE G B (k w S1) μ S H E Q := h
    cases hr : k w S1 with
    | ok w2 S2 => rw [hr] at h; exact fun v2 μ2 H2 e2 r2 w2 => h v2 μ2 H2 (e1.trans e2) r2 w2
    | err c f S2 => rw [hr] at h; exact fun cls d μ2 H2 e2 r2 w2 => h cls d μ2 H2 (e1.trans e2) r2 w2
    | stuck => rw [hr] at h; exact h
  | err c f S1 => exact h
  | stuck => exact h

end Ci

end
section
set_option linter.all false
set_option autoImplicit false
set_option maxHeartbeats 1000000
namespace Ci
open PySem L2
variable [kI : HasK]

def WRs (H : Hp) (μ : List Addr) (L : Addr → Prop) : List W → List V → Prop
  | [], vs => vs = []
  | w :: ws, vs => ∃ v r, vs = v :: r ∧ WR H μ L w v ∧ WRs H μ L ws r
theorem WRs.evo {T : List (Addr × Str)} {B0 B : Addr → Prop} {μ μ1 : List Addr} {S S1 : List O} {H H1 : Hp} (R : Rel T B0 μ S H) (E : Evo μ S H μ1 S1 H1) : ∀ {ws : List W} {vs : List V}, WRs H μ (Live B μ S) ws vs → WRs H1 μ1 (Live B μ1 S1) ws vs
  | [], vs, h => h
  | w :: ws, vs, h => by
    obtain ⟨v, r, e, h1, h2⟩ := h
    exact ⟨v, r, e, h1.evo R E, WRs.evo R E h2⟩
theorem WRs.length {μ : List Addr} {H : Hp} {L : Addr → Prop} : ∀ {ws : List W} {vs : List V}, WRs H μ L ws vs → ws.length = vs.length
  | [], vs, h => by rw [show vs = [] from h]; rfl
  | w :: ws, vs, h => by
    obtain ⟨v, r, e, h1, h2⟩ := h
    rw [e, List.length_cons, List.length_cons, WRs.length h2]
theorem WRs.data {μ : List Addr} {H : Hp} {L : Addr → Prop} : ∀ {ws : List W} {vs : List V} {xs : List PyData}, WRs H μ L ws vs → dataOf ws = some xs → DatL H L xs vs
  | [], vs, xs, h, e => by
    have e : some [] = some xs := e
    cases e
    simp only [DatL]
    exact h
  | .d p :: ws, vs, xs, h, e => by
    obtain ⟨v, r, e1, h1, h2⟩ := h
    unfold dataOf at e
    cases q : dataOf ws with
    | none => rw [q] at e; cases e
    | some ys =>
      rw [q] at e
      cases e
      simp only [DatL]
      exact ⟨v, r, e1, h1, WRs.data h2 q⟩
  | .ref n :: ws, vs, xs, h, e => by cases e
  | .scr n :: ws, vs, xs, h, e => by cases e

def OKT (G : Glob) (B : Addr → Prop) (r : R W) (μ : List Addr) (S : List O) (H : Hp) (E : XK) (Q : Bool → Hp → Prop) : Prop := match r with
  | .ok (.d (.bool b)) S' => ∀ μ' H', Evo μ S H μ' S' H' → Rel G.T B μ' S' H' → Q b H'
  | .err c f S' => ∀ cls d μ' H', Evo μ S H μ' S' H' → Rel G.T B μ' S' H' → ErrR G H' (Live B μ' S') c f cls d → E cls d H'
  | _ => False
def OKA (G : Glob) (B : Addr → Prop) (r : R (List W)) (μ : List Addr) (S : List O) (H : Hp) (E : XK) (Q : List V → Hp → Prop) : Prop := match r with
  | .ok ws S' => ∀ vs μ' H', Evo μ S H μ' S' H' → Rel G.T B μ' S' H' → WRs H' μ' (Live B μ' S') ws vs → Q vs H'
  | .err c f S' => ∀ cls d μ' H', Evo μ S H μ' S' H' → Rel G.T B μ' S' H' → ErrR G H' (Live B μ' S') c f cls d → E cls d H'
  | .stuck => False
theorem OKT.oke {G : Glob} {r : R W} {B : Addr → Prop} {μ : List Addr} {S : List O} {H : Hp} {E : XK} {Q : Bool → Hp → Prop} (h : OKT G B r μ S H E Q) : OKE G B r μ S H E (fun v H1 => ∃ c, v = .bl c ∧ Q c H1) := by
  cases r with
  | ok w S' =>
    cases w with
    | d p =>
      cases p with
      | bool b =>
        intro v μ' H' e1 r1 w1
        have q : v = V.bl b := by simpa only [WR, Dat] using w1
        exact ⟨b, q, h μ' H' e1 r1⟩
      | _ => exact absurd h id
    | ref n => exact absurd h id
    | scr n => exact absurd h id
  | err c f S' => exact h
  | stuck => exact h

section
variable (G : Glob) (X : Cx) (Wx : WX) (F : FnT) (L : Nat → ActT → List O → R W) (A : ActT)
def DE (c : C) (e : Expr) : Prop := ∃ t : TE, PE X e t ∧ ∀ (ρ : Ev) (σ : L2.St) (B : Addr → Prop) (μ : List Addr) (S : List O) (H : Hp) (Q : VK), EnvR H μ (Live B μ S) ρ σ → Rel G.T B μ S H → OKE G B (ev F L A c ρ S) μ S H (fun cls d H' => Wx cls d σ H') Q → t σ H Q
def DT (c : C) (e : Expr) : Prop := ∃ t : TT, PT X e t ∧ ∀ (ρ : Ev) (σ : L2.St) (B : Addr → Prop) (μ : List Addr) (S : List O) (H : Hp) (Q : Bool → Hp → Prop), EnvR H μ (Live B μ S) ρ σ → Rel G.T B μ S H → OKT G B (ev F L A c ρ S) μ S H (fun cls d H' => Wx cls d σ H') Q → t σ H Q
def DA (cs : List C) (es : List Expr) : Prop := ∃ t : TA, PA X es t ∧ ∀ (ρ : Ev) (σ : L2.St) (B : Addr → Prop) (μ : List Addr) (S : List O) (H : Hp) (Q : List V → Hp → Prop), EnvR H μ (Live B μ S) ρ σ → Rel G.T B μ S H → OKA G B (evs F L A cs ρ S) μ S H (fun cls d H' => Wx cls d σ H') Q → t σ H Q
end

section
variable {G : Glob} {X : Cx} {Wx : WX} {F : FnT} {L : Nat → ActT → List O → R W} {A : ActT} {a b c d : C} {ea eb ec e : Expr} {pos : Pos}

theorem DE.dt (h : DE G X Wx F L A c e) (he : ∀ whole, isTrue e X.env whole = (do let v ← whole; standAt e.pos; holding [v] (truthy v))) : DT G X Wx F L A c e := by
  obtain ⟨t, ht, hq⟩ := h
  exact ⟨_, pt_val ht he, fun ρ σ B μ S H Q er rl o => hq ρ σ B μ S H _ er rl o.oke⟩

theorem DE.var {i : Nat} {x : Str} (hN : X.N[i]? = some x) (hv : Vis X.env.scope x) (hd : (x == ("__debug__" : Str)) = false) (hcd : (x == ("__classdict__" : Str)) = false) : DE G X Wx F L A (.var i) (.Name x pos) := by
  refine ⟨_, pe_var hN hv hd hcd, fun ρ σ B μ S H Q er rl o => ?_⟩
  unfold ev varW at o
  split at o
  · rename_i w hw
    obtain ⟨v, e1, r1⟩ := er.at_ i w hw
    exact ⟨v, e1, o v μ H .refl rl r1⟩
  · exact o.elim

/-- a value that is told at once -/
theorem DE.told {p : PyData} {v : V} (h : PE X e (tC v)) (hv : ∀ H L, Dat H L p v) : DE G X Wx F L A (.cst p) e :=
  ⟨_, h, fun ρ σ B μ S H Q er rl o => by
    unfold ev at o
    exact o v μ H .refl rl (hv _ _)⟩
theorem DE.int {i : Int} {j : Nat} : DE G X Wx F L A (.cst (.int i)) (.Constant (.int i) j pos) := DE.told pe_int fun _ _ => by simp only [Dat]
theorem DE.bool {b : Bool} {j : Nat} : DE G X Wx F L A (.cst (.bool b)) (.Constant (.bool b) j pos) := DE.told pe_bl fun _ _ => by simp only [Dat]
theorem DE.none {j : Nat} : DE G X Wx F L A (.cst .none) (.Constant .none j pos) := DE.told pe_non fun _ _ => by simp only [Dat]
theorem DE.str {x : Str} {j : Nat} : DE G X Wx F L A (.cst (.str x)) (.Constant (.str x) j pos) := DE.told pe_str fun _ _ => by simp only [Dat]

theorem DA.nil : DA G X Wx F L A [] [] := ⟨_, pa_nil, fun ρ σ B μ S H Q er rl o => by
  unfold evs at o
  exact o [] μ H .refl rl rfl⟩
theorem OKA.bind {r : R W} {k : W → List O → R (List W)} {B : Addr → Prop} {μ : List Addr} {S : List O} {H : Hp} {E : XK} {Q : List V → Hp → Prop} {P : VK}
    (h : OKA G B (r.bind k) μ S H E Q)
    (hk : ∀ w S1 v μ1 H1, Evo μ S H μ1 S1 H1 → Rel G.T B μ1 S1 H1 → WR H1 μ1 (Live B μ1 S1) w v → OKA G B (k w S1) μ1 S1 H1 E Q → P v H1) : OKE G B r μ S H E P := by
  cases r with
  | ok w S1 =>
    intro v μ1 H1 e1 r1 w1
    refine hk w S1 v μ1 H1 e1 r1 w1 ?_
    have h : OKA G B (k w S1) μ S H E Q := h
    cases hr : k w S1 with
    | ok w2 S2 => rw [hr] at h; exact fun v2 μ2 H2 e2 r2 w2 => h v2 μ2 H2 (e1.trans e2) r2 w2
    | err c f S2 => rw [hr] at h; exact fun cls d μ2 H2 e2 r2 w2 => h cls d μ2 H2 (e1.trans e2) r2 w2
    | stuck => rw [hr] at h; exact h
  | err c f S1 => exact h
  | stuck => exact h
theorem OKA.bindA {r : R (List W)} {k : List W → List O → R (List W)} {B : Addr → Prop} {μ : List Addr} {S : List O} {H : Hp} {E : XK} {Q : List V → Hp → Prop} {P : List V → Hp → Prop}
    (h : OKA G B (r.bind k) μ S H E Q)
    (hk : ∀ w S1 v μ1 H1, Evo μ S H μ1 S1 H1 → Rel G.T B μ1 S1 H1 → WRs H1 μ1 (Live B μ1 S1) w v → OKA G B (k w S1) μ1 S1 H1 E Q → P v H1) : OKA G B r μ S H E P := by
  cases r with
  | ok w S1 =>
    intro v μ1 H1 e1 r1 w1
    refine hk w S1 v μ1 H1 e1 r1 w1 ?_
    have h : OKA G B (k w S1) μ S H E Q := h
    cases hr : k w S1 with
    | ok w2 S2 => rw [hr] at h; exact fun v2 μ2 H2 e2 r2 w2 => h v2 μ2 H2 (e1.trans e2) r2 w2
    | err c f S2 => rw [hr] at h; exact fun cls d μ2 H2 e2 r2 w2 => h cls d μ2 H2 (e1.trans e2) r2 w2
    | stuck => rw [hr] at h; exact h
  | err c f S1 => exact h
  | stuck => exact h
theorem OKE.bindA {r : R (List W)} {k : List W → List O → R W} {B : Addr → Prop} {μ : List Addr} {S : List O} {H : Hp} {E : XK} {Q : VK} {P : List V → Hp → Prop}
    (h : OKE G B (r.bind k) μ S H E Q)
    (hk : ∀ w S1 v μ1 H1, Evo μ S H μ1 S1 H1 → Rel G.T B μ1 S1 H1 → WRs H1 μ1 (Live B μ1 S1) w v → OKE G B (k w S1) μ1 S1 H1 E Q → P v H1) : OKA G B r μ S H E P := by
  cases r with
  | ok w S1 =>
    intro v μ1 H1 e1 r1 w1
    refine hk w S1 v μ1 H1 e1 r1 w1 ?_
    have h : OKE G B (k w S1) μ S H E Q := h
    cases hr : k w S1 with
    | ok w2 S2 => rw [hr] at h; exact fun v2 μ2 H2 e2 r2 w2 => h v2 μ2 H2 (e1.trans e2) r2 w2
    | err c f S2 => rw [hr] at h; exact fun cls d μ2 H2 e2 r2 w2 => h cls d μ2 H2 (e1.trans e2) r2 w2
    | stuck => rw [hr] at h; exact h
  | err c f S1 => exact h
  | stuck => exact h
theorem OKT.bind {r : R W} {k : W → List O → R W} {B : Addr → Prop} {μ : List Addr} {S : List O} {H : Hp} {E : XK} {Q : Bool → Hp → Prop} {P : VK}
    (h : OKT G B (r.bind k) μ S H E Q)
    (hk : ∀ w S1 v μ1 H1, Evo μ S H μ1 S1 H1 → Rel G.T B μ1 S1 H1 → WR H1 μ1 (Live B μ1 S1) w v → OKT G B (k w S1) μ1 S1 H1 E Q → P v H1) : OKE G B r μ S H E P := by
  cases r with
  | ok w S1 =>
    intro v μ1 H1 e1 r1 w1
    refine hk w S1 v μ1 H1 e1 r1 w1 ?_
    have h : OKT G B (k w S1) μ S H E Q := h
    cases hr : k w S1 with
    | ok w2 S2 =>
      rw [hr] at h
      cases w2 with
      | d p =>
        cases p with
        | bool k => exact fun μ2 H2 e2 r2 => h μ2 H2 (e1.trans e2) r2
        | _ => exact h.elim
      | ref n => exact h.elim
      | scr n => exact h.elim
    | err c f S2 => rw [hr] at h; exact fun cls d μ2 H2 e2 r2 w2 => h cls d μ2 H2 (e1.trans e2) r2 w2
    | stuck => rw [hr] at h; exact h
  | err c f S1 => exact h
  | stuck => exact h
/-- the same, the first part a test -/
theorem OKT.bindT {r : R W} {k : W → List O → R W} {B : Addr → Prop} {μ : List Addr} {S : List O} {H : Hp} {E : XK} {Q : Bool → Hp → Prop} {P : Bool → Hp → Prop}
    (h : OKT G B (r.bind k) μ S H E Q) (hn : ∀ w S1, (∀ b, w ≠ .d (.bool b)) → k w S1 = .stuck)
    (hk : ∀ w S1 μ1 H1, Evo μ S H μ1 S1 H1 → Rel G.T B μ1 S1 H1 → OKT G B (k (.d (.bool w)) S1) μ1 S1 H1 E Q → P w H1) : OKT G B r μ S H E P := by
  cases r with
  | ok w S1 =>
    by_cases hw : ∃ b, w = .d (.bool b)
    · obtain ⟨b, rfl⟩ := hw
      intro μ1 H1 e1 r1
      refine hk b S1 μ1 H1 e1 r1 ?_
      have h : OKT G B (k (.d (.bool b)) S1) μ S H E Q := h
      cases hr : k (.d (.bool b)) S1 with
      | ok w2 S2 =>
        rw [hr] at h
        cases w2 with
        | d p =>
          cases p with
          | bool k => exact fun μ2 H2 e2 r2 => h μ2 H2 (e1.trans e2) r2
          | _ => exact h.elim
        | ref n => exact h.elim
        | scr n => exact h.elim
      | err c f S2 => rw [hr] at h; exact fun cls d μ2 H2 e2 r2 w2 => h cls d μ2 H2 (e1.trans e2) r2 w2
      | stuck => rw [hr] at h; exact h
    · have q := hn w S1 fun b z => hw ⟨b, z⟩
      have h : OKT G B (k w S1) μ S H E Q := h
      rw [q] at h
      exact h.elim
  | err c f S1 => exact h
  | stuck => exact h
theorem OKE.bindT {r : R W} {k : W → List O → R W} {B : Addr → Prop} {μ : List Addr} {S : List O} {H : Hp} {E : XK} {Q : VK} {P : Bool → Hp → Prop}
    (h : OKE G B (r.bind k) μ S H E Q) (hn : ∀ w S1, (∀ b, w ≠ .d (.bool b)) → k w S1 = .stuck)
    (hk : ∀ w S1 μ1 H1, Evo μ S H μ1 S1 H1 → Rel G.T B μ1 S1 H1 → OKE G B (k (.d (.bool w)) S1) μ1 S1 H1 E Q → P w H1) : OKT G B r μ S H E P := by
  cases r with
  | ok w S1 =>
    by_cases hw : ∃ b, w = .d (.bool b)
    · obtain ⟨b, rfl⟩ := hw
      intro μ1 H1 e1 r1
      refine hk b S1 μ1 H1 e1 r1 ?_
      have h : OKE G B (k (.d (.bool b)) S1) μ S H E Q := h
      cases hr : k (.d (.bool b)) S1 with
      | ok w2 S2 => rw [hr] at h; exact fun v2 μ2 H2 e2 r2 w2 => h v2 μ2 H2 (e1.trans e2) r2 w2
      | err c f S2 => rw [hr] at h; exact fun cls d μ2 H2 e2 r2 w2 => h cls d μ2 H2 (e1.trans e2) r2 w2
      | stuck => rw [hr] at h; exact h
    · have q := hn w S1 fun b z => hw ⟨b, z⟩
      have h : OKE G B (k w S1) μ S H E Q := h
      rw [q] at h
      exact h.elim
  | err c f S1 => exact h
  | stuck => exact h

theorem DA.cons {c : C} {cs : List C} {e : Expr} {es : List Expr} (he : DE G X Wx F L A c e) (hs : DA G X Wx F L A cs es) (h0 : starEach (e :: es) X.env = (false, eval e X.env) :: starEach es X.env) : DA G X Wx F L A (c :: cs) (e :: es) := by
  obtain ⟨t, ht, hq⟩ := he
  obtain ⟨u, hu, hr⟩ := hs
  refine ⟨_, pa_cons ht hu h0, fun ρ σ B μ S H Q er rl o => ?_⟩
  unfold evs at o
  refine hq ρ σ B μ S H _ er rl (OKA.bind o fun w S1 v μ1 H1 e1 r1 w1 o1 => ?_)
  refine hr ρ σ B μ1 S1 H1 _ (er.evo rl e1) r1 (OKA.bindA o1 fun ws S2 vs μ2 H2 e2 r2 w2 o2 => ?_)
  exact o2 (v :: vs) μ2 H2 .refl r2 ⟨v, vs, rfl, w1.evo r1 e2, w2⟩

/-- a two-place operation -/
theorem DE.op2 {k : W → W → List O → R W} {c : C} {e : Expr} {t : TE → TE → TE} (ha : DE G X Wx F L A a ea) (hb : DE G X Wx F L A b eb)
    (hp : ∀ ta tb, PE X ea ta → PE X eb tb → PE X e (t ta tb))
    (hev : ∀ ρ S, ev F L A c ρ S = (ev F L A a ρ S).bind fun x S1 => (ev F L A b ρ S1).bind fun y S2 => k x y S2) {r : R2} (htr : ∀ ta tb σ H Q, ta σ H (fun x H1 => tb σ H1 fun y H2 => r x y H2 Q) → t ta tb σ H Q)
    (hk : ∀ x y v u B μ S H E Q, Rel G.T B μ S H → WR H μ (Live B μ S) x v → WR H μ (Live B μ S) y u → OKE G B (k x y S) μ S H E Q → r v u H Q) : DE G X Wx F L A c e := by
  obtain ⟨ta, h1, q1⟩ := ha
  obtain ⟨tb, h2, q2⟩ := hb
  refine ⟨_, hp ta tb h1 h2, fun ρ σ B μ S H Q er rl o => htr ta tb σ H Q ?_⟩
  rw [hev] at o
  refine q1 ρ σ B μ S H _ er rl (OKE.bind o fun x S1 v μ1 H1 e1 r1 w1 o1 => ?_)
  refine q2 ρ σ B μ1 S1 H1 _ (er.evo rl e1) r1 (OKE.bind o1 fun y S2 u μ2 H2 e2 r2 w2 o2 => ?_)
  exact hk x y v u B μ2 S2 H2 _ Q r2 (w1.evo r1 e2) w2 o2
theorem DE.op1 {k : W → List O → R W} {c : C} {e : Expr} {t : TE → TE} (ha : DE G X Wx F L A a ea)
    (hp : ∀ ta, PE X ea ta → PE X e (t ta))
    (hev : ∀ ρ S, ev F L A c ρ S = (ev F L A a ρ S).bind fun x S1 => k x S1) {r : V → Hp → VK → Prop} (htr : ∀ ta σ H Q, ta σ H (fun x H1 => r x H1 Q) → t ta σ H Q)
    (hk : ∀ x v B μ S H E Q, Rel G.T B μ S H → WR H μ (Live B μ S) x v → OKE G B (k x S) μ S H E Q → r v H Q) : DE G X Wx F L A c e := by
  obtain ⟨ta, h1, q1⟩ := ha
  refine ⟨_, hp ta h1, fun ρ σ B μ S H Q er rl o => htr ta σ H Q ?_⟩
  rw [hev] at o
  refine q1 ρ σ B μ S H _ er rl (OKE.bind o fun x S1 v μ1 H1 e1 r1 w1 o1 => ?_)
  exact hk x v B μ1 S1 H1 _ Q r1 w1 o1

theorem dat_int {H : Hp} {L : Addr → Prop} {i : Int} {v : V} (h : Dat H L (.int i) v) : v = .int i := by simpa only [Dat] using h
theorem dat_bool {H : Hp} {L : Addr → Prop} {i : Bool} {v : V} (h : Dat H L (.bool i) v) : v = .bl i := by simpa only [Dat] using h
end
end Ci

end
section
set_option linter.all false
set_option autoImplicit false
set_option maxHeartbeats 1000000
namespace Ci
open PySem L2
variable [kI : HasK]

section
variable {T : List (Addr × Str)} {B : Addr → Prop} {μ : List Addr} {S : List O} {H H' : Hp}
theorem Evo.ext (e : Same H H') : Evo μ S H μ S H' := ⟨fun _ _ h => h, fun a o h _ _ => e a o h, fun _ h => .inl h⟩
theorem KvR.evo {κ : Type} {B0 : Addr → Prop} {μ1 : List Addr} {S1 : List O} {H1 : Hp} (R : Rel T B0 μ S H) (E : Evo μ S H μ1 S1 H1) : ∀ {kvs : List (κ × W)} {kv : List (κ × V)}, KvR H μ (Live B μ S) kvs kv → KvR H1 μ1 (Live B μ1 S1) kvs kv
  | [], kv, h => h
  | p :: r, kv, h => by
    obtain ⟨v, t, e, h1, h2⟩ := h
    exact ⟨v, t, e, h1.evo R E, KvR.evo R E h2⟩
theorem Rel.ext (R : Rel T B μ S H) (e : Same H H') : Rel T B μ S H' := by
  have E : Evo μ S H μ S H' := .ext e
  refine ⟨R.len, R.inj, fun i a o h1 h2 => ?_, R.tabs.ext e, fun a h => by obtain ⟨vs, q⟩ := R.bl a h; exact ⟨vs, e _ _ q⟩, R.bn⟩
  have q := R.obj i a o h1 h2
  cases o with
  | lst ds => obtain ⟨vs, e1, d⟩ := q; exact ⟨vs, e _ _ e1, DatL.evo R E ds vs d⟩
  | dK kvs => obtain ⟨kv, e1, d⟩ := q; exact ⟨kv, e _ _ e1, d.evo R E⟩
  | dT kvs => obtain ⟨kv, e1, d⟩ := q; exact ⟨kv, e _ _ e1, d.evo R E⟩
  | dead => trivial
theorem same_upd {p : Addr} {o : HO} (h : H p = none) : Same H (upd H p o) := fun b u e => by
  rw [upd_ne (ne_of_none e h)]
  exact e
/-- a new tuple -/
theorem tup_new (R : Rel T B μ S H) {p : Addr} {xs : List PyData} {vs : List V} (h : H p = none) (d : DatL H (Live B μ S) xs vs) : Dat (upd H p (.tup vs)) (Live B μ S) (.tuple xs) (.ref p) := by
  simp only [Dat]
  exact ⟨p, vs, rfl, upd_same, DatL.evo R (.ext (same_upd h)) xs vs d⟩
/-- a new list that will not change -/
theorem lst_new (R : Rel T B μ S H) {p : Addr} {xs : List PyData} {vs : List V} (h : H p = none) (d : DatL H (Live B μ S) xs vs) : Dat (upd H p (.lst vs)) (Live B μ S) (.list xs) (.ref p) := by
  simp only [Dat]
  exact ⟨p, vs, rfl, upd_same, fun l => R.some_of l h, DatL.evo R (.ext (same_upd h)) xs vs d⟩
theorem DatL.length {L : Addr → Prop} : ∀ {xs : List PyData} {vs : List V}, DatL H L xs vs → xs.length = vs.length
  | [], vs, h => by
    simp only [DatL] at h
    rw [h]; rfl
  | x :: xs, vs, h => by
    simp only [DatL] at h
    obtain ⟨v, r, e, _, h2⟩ := h
    rw [e, List.length_cons, List.length_cons, DatL.length h2]
theorem DatL.get {L : Addr → Prop} : ∀ {xs : List PyData} {vs : List V} {i : Nat} {x : PyData}, DatL H L xs vs → xs[i]? = some x → ∃ v, vs[i]? = some v ∧ Dat H L x v
  | [], vs, i, x, h, e => by simp at e
  | y :: xs, vs, 0, x, h, e => by
    simp only [DatL] at h
    obtain ⟨v, r, e1, h1, h2⟩ := h
    cases e
    exact ⟨v, by rw [e1]; rfl, h1⟩
  | y :: xs, vs, i + 1, x, h, e => by
    simp only [DatL] at h
    obtain ⟨v, r, e1, h1, h2⟩ := h
    obtain ⟨u, e2, d⟩ := DatL.get (i := i) h2 (by simpa using e)
    exact ⟨u, by rw [e1]; simpa using e2, d⟩
theorem DatL.append {L : Addr → Prop} : ∀ {xs ys : List PyData} {vs us : List V}, DatL H L xs vs → DatL H L ys us → DatL H L (xs ++ ys) (vs ++ us)
  | [], ys, vs, us, h, k => by
    simp only [DatL] at h
    rw [h]; exact k
  | x :: xs, ys, vs, us, h, k => by
    simp only [DatL] at h
    obtain ⟨v, r, e, h1, h2⟩ := h
    rw [e]
    show DatL H L (x :: (xs ++ ys)) (v :: (r ++ us))
    simp only [DatL]
    exact ⟨v, r ++ us, rfl, h1, DatL.append h2 k⟩
theorem DatL.nil {L : Addr → Prop} : DatL H L [] [] := by simp only [DatL]
theorem DatL.take {L : Addr → Prop} : ∀ {xs : List PyData} {vs : List V} (n : Nat), DatL H L xs vs → DatL H L (xs.take n) (vs.take n)
  | xs, vs, 0, h => by simpa using DatL.nil
  | [], vs, n + 1, h => by
    simp only [DatL] at h
    rw [h]; simpa using DatL.nil
  | x :: xs, vs, n + 1, h => by
    simp only [DatL] at h
    obtain ⟨v, r, e, h1, h2⟩ := h
    rw [e]
    show DatL H L (x :: xs.take n) (v :: r.take n)
    simp only [DatL]
    exact ⟨v, _, rfl, h1, DatL.take n h2⟩
theorem DatL.drop {L : Addr → Prop} : ∀ {xs : List PyData} {vs : List V} (n : Nat), DatL H L xs vs → DatL H L (xs.drop n) (vs.drop n)
  | xs, vs, 0, h => h
  | [], vs, n + 1, h => by
    simp only [DatL] at h
    rw [h]; simpa using DatL.nil
  | x :: xs, vs, n + 1, h => by
    simp only [DatL] at h
    obtain ⟨v, r, e, h1, h2⟩ := h
    rw [e]
    exact DatL.drop n h2
theorem DatL.set {L : Addr → Prop} {x : PyData} {v : V} (d : Dat H L x v) : ∀ {xs : List PyData} {vs : List V} (i : Nat), DatL H L xs vs → DatL H L (xs.set i x) (vs.set i v)
  | [], vs, i, h => by
    simp only [DatL] at h
    rw [h]; simpa using DatL.nil
  | y :: xs, vs, 0, h => by
    simp only [DatL] at h
    obtain ⟨u, r, e, h1, h2⟩ := h
    rw [e]
    show DatL H L (x :: xs) (v :: r)
    simp only [DatL]
    exact ⟨v, r, rfl, d, h2⟩
  | y :: xs, vs, i + 1, h => by
    simp only [DatL] at h
    obtain ⟨u, r, e, h1, h2⟩ := h
    rw [e]
    show DatL H L (y :: xs.set i x) (u :: r.set i v)
    simp only [DatL]
    exact ⟨u, _, rfl, h1, DatL.set d i h2⟩
theorem DatL.replicate {L : Addr → Prop} {xs : List PyData} {vs : List V} (h : DatL H L xs vs) : ∀ n : Nat, DatL H L (List.replicate n xs).flatten (List.replicate n vs).flatten
  | 0 => by simpa using DatL.nil
  | n + 1 => by
    rw [List.replicate_succ, List.replicate_succ, List.flatten_cons, List.flatten_cons]
    exact h.append (DatL.replicate h n)
mutual
theorem Dat.dp {K : PySem.W.Frag} {L : Addr → Prop} : ∀ (p : PyData) (v : V), Dat H L p v → Dp K H v p
  | .none, v, h => by simp only [Dat] at h; rw [h]; exact .non
  | .bool b, v, h => by simp only [Dat] at h; rw [h]; exact .bl b
  | .int i, v, h => by simp only [Dat] at h; rw [h]; exact .int i
  | .str s, v, h => by simp only [Dat] at h; rw [h]; exact .str s
  | .list xs, v, h => by
    simp only [Dat] at h
    obtain ⟨a, vs, e, r, _, d⟩ := h
    rw [e]
    exact .lst (.inl (.inl r)) (DatL.dp xs vs d)
  | .tuple xs, v, h => by
    simp only [Dat] at h
    obtain ⟨a, vs, e, r, d⟩ := h
    rw [e]
    exact .tup (.inl (.inl r)) (DatL.dp xs vs d)
  | .dict _, v, h => by simp only [Dat] at h
theorem DatL.dp {K : PySem.W.Frag} {L : Addr → Prop} : ∀ (xs : List PyData) (vs : List V), DatL H L xs vs → DpAll K H vs xs
  | [], vs, h => by simp only [DatL] at h; rw [h]; exact .nil
  | x :: xs, vs, h => by
    simp only [DatL] at h
    obtain ⟨v, r, e, h1, h2⟩ := h
    rw [e]
    exact .cons (Dat.dp x v h1) (DatL.dp xs r h2)
end
end

theorem dat_list {H : Hp} {L : Addr → Prop} {xs : List PyData} {v : V} (h : Dat H L (.list xs) v) : ∃ a vs, v = .ref a ∧ H a = some (.lst vs) ∧ ¬ L a ∧ DatL H L xs vs := by simpa only [Dat] using h
theorem dat_tup {H : Hp} {L : Addr → Prop} {xs : List PyData} {v : V} (h : Dat H L (.tuple xs) v) : ∃ a vs, v = .ref a ∧ H a = some (.tup vs) ∧ DatL H L xs vs := by simpa only [Dat] using h
theorem wr_int {H : Hp} {μ : List Addr} {L : Addr → Prop} {i : Int} {v : V} (h : WR H μ L (.d (.int i)) v) : v = .int i := dat_int (H := H) (L := L) h

section
variable {X : Cx}
theorem OpR.or {f : Value → Value → Sem Value} {r1 r2 : R2} (h1 : OpR X f r1) (h2 : OpR X f r2) : OpR X f (fun x y H Q => r1 x y H Q ∨ r2 x y H Q) := fun pins s σ H x y v u Q I rx ry h => by
  rcases h with h | h
  · exact h1 pins s σ H x y v u Q I rx ry h
  · exact h2 pins s σ H x y v u Q I rx ry h
theorem CallR.or {f : Value} {r1 r2 : List V → Hp → VK → Prop} (h1 : CallR X f r1) (h2 : CallR X f r2) : CallR X f (fun x H Q => r1 x H Q ∨ r2 x H Q) := fun pins s σ H xs us Q I r h => by
  rcases h with h | h
  · exact h1 pins s σ H xs us Q I r h
  · exact h2 pins s σ H xs us Q I r h
theorem IxR.or {r1 r2 : R2} (h1 : IxR X r1) (h2 : IxR X r2) : IxR X (fun x y H Q => r1 x y H Q ∨ r2 x y H Q) := fun value slice pins s σ H x y v u Q I rx ry h => by
  rcases h with h | h
  · exact h1 value slice pins s σ H x y v u Q I rx ry h
  · exact h2 value slice pins s σ H x y v u Q I rx ry h
theorem SlR.or {r1 r2 : V → Option Int → Option Int → Hp → VK → Prop} (h1 : SlR X r1) (h2 : SlR X r2) : SlR X (fun x l h H Q => r1 x l h H Q ∨ r2 x l h H Q) := fun pins s σ H x v vl vu lo hi sl Q I rx a b c h => by
  rcases h with h | h
  · exact h1 pins s σ H x v vl vu lo hi sl Q I rx a b c h
  · exact h2 pins s σ H x v vl vu lo hi sl Q I rx a b c h
theorem OpR.none {f : Value → Value → Sem Value} : OpR X f (fun _ _ _ _ => False) := fun _ _ _ _ _ _ _ _ _ _ _ _ h => h.elim
end
end Ci

end
section
set_option linter.all false
set_option autoImplicit false
set_option maxHeartbeats 1000000
namespace Ci
open PySem L2
variable [kI : HasK]

section
variable {G : Glob} {X : Cx} {Wx : WX} {F : FnT} {L : Nat → ActT → List O → R W} {A : ActT} {a b c d : C} {ea eb ec e : Expr} {pos : Pos}

theorem oke_ok {p : PyData} {B : Addr → Prop} {μ : List Addr} {S : List O} {H : Hp} {E : XK} {Q : VK} (h : OKE G B (ok p S) μ S H E Q) (r : Rel G.T B μ S H) {v : V} {H' : Hp} (s : Same H H') (d : Dat H' (Live B μ S) p v) : Q v H' :=
  h v μ H' (.ext s) (r.ext s) d
theorem oke_here {p : PyData} {B : Addr → Prop} {μ : List Addr} {S : List O} {H : Hp} {E : XK} {Q : VK} (h : OKE G B (ok p S) μ S H E Q) (r : Rel G.T B μ S H) {v : V} (d : Dat H (Live B μ S) p v) : Q v H :=
  h v μ H .refl r d

/-- an operation on two data -/
theorem DE.bin {o : BOp} {op : Operator} {r : R2} (ha : DE G X Wx F L A a ea) (hb : DE G X Wx F L A b eb) (hr : OpR X (binaryOp op) r)
    (hk : ∀ p q z v u B μ S H Q, bop o p q = some z → Rel G.T B μ S H → Dat H (Live B μ S) p v → Dat H (Live B μ S) q u → (∀ w H', Same H H' → Dat H' (Live B μ S) z w → Q w H') → r v u H Q) :
    DE G X Wx F L A (.bin o a b) (.BinOp ea op eb pos) := by
  refine DE.op2 (t := tOp r) ha hb (fun ta tb h1 h2 => pe_op hr h1 h2) (k := binW o) (fun ρ S => by rw [ev]) (fun _ _ _ _ _ h => h) fun x y v u B μ S H E Q R hx hy o => ?_
  unfold binW at o
  split at o
  · rename_i p q
    unfold okO at o
    split at o
    · rename_i z hz
      exact hk p q z v u B μ S H Q hz R hx hy fun w H' s d => oke_ok o R s d
    · exact o.elim
  · exact o.elim
theorem bop_add {p q z : PyData} (h : bop .add p q = some z) : (∃ i j, p = .int i ∧ q = .int j ∧ z = .int (i + j)) ∨ (∃ a b, p = .list a ∧ q = .list b ∧ z = .list (a ++ b) ∧ a.length + b.length ≤ 100000) ∨ ∃ a b, p = .tuple a ∧ q = .tuple b ∧ z = .tuple (a ++ b) ∧ a.length + b.length ≤ 100000 := by
  cases p <;> cases q <;> simp only [bop, reduceCtorEq] at h
  · exact .inl ⟨_, _, rfl, rfl, (Option.some.inj h).symm⟩
  · split at h
    · exact .inr (.inl ⟨_, _, rfl, rfl, (Option.some.inj h).symm, by assumption⟩)
    · cases h
  · split at h
    · exact .inr (.inr ⟨_, _, rfl, rfl, (Option.some.inj h).symm, by assumption⟩)
    · cases h
theorem sz5 {n : Nat} (h : n ≤ 100000) : n ≤ sizeLine := Nat.le_trans h (by decide)
theorem DE.add (ha : DE G X Wx F L A a ea) (hb : DE G X Wx F L A b eb) : DE G X Wx F L A (.bin .add a b) (.BinOp ea .Add eb pos) := by
  refine DE.bin ha hb ((op_add.or op_cat).or op_catA) fun p q z v u B μ S H Q hz R hp hq k => ?_
  rcases bop_add hz with ⟨i, j, rfl, rfl, rfl⟩ | ⟨xs, ys, rfl, rfl, rfl, hl⟩ | ⟨xs, ys, rfl, rfl, rfl, hl⟩
  · exact .inl (.inl ⟨i, j, dat_int hp, dat_int hq, k _ H (Same.refl H) (by simp only [Dat])⟩)
  · obtain ⟨a1, vs, rfl, r1, n1, d1⟩ := dat_list hp
    obtain ⟨a2, us, rfl, r2, n2, d2⟩ := dat_list hq
    exact .inl (.inr ⟨a1, a2, vs, us, rfl, rfl, r1, r2, by rw [← d1.length, ← d2.length]; exact sz5 hl, fun p hp' => k _ _ (same_upd hp') (lst_new R hp' (d1.append d2))⟩)
  · obtain ⟨a1, vs, e1, r1, d1⟩ := dat_tup hp
    obtain ⟨a2, us, e2, r2, d2⟩ := dat_tup hq
    have l1 := d1.length
    have l2 := d2.length
    refine .inr ⟨a1, a2, vs, us, e1, e2, .inl (.inl r1), .inl (.inl r2), by rw [← l1, ← l2]; exact sz5 hl, fun z => ?_, fun z z2 => ?_, fun _ _ p hp' => k _ _ (same_upd hp') (tup_new R hp' (d1.append d2))⟩
    · have z0 : xs = [] := by rw [z] at l1; exact List.eq_nil_of_length_eq_zero l1
      subst z0
      exact k _ H (Same.refl H) (by rw [← e2]; exact hq)
    · have z0 : ys = [] := by rw [z2] at l2; exact List.eq_nil_of_length_eq_zero l2
      subst z0
      rw [List.append_nil] at k
      exact k _ H (Same.refl H) (by rw [← e1]; exact hp)
theorem DE.sub (ha : DE G X Wx F L A a ea) (hb : DE G X Wx F L A b eb) : DE G X Wx F L A (.bin .sub a b) (.BinOp ea .Sub eb pos) := by
  refine DE.bin ha hb op_sub fun p q z v u B μ S H Q hz R hp hq k => ?_
  cases p <;> cases q <;> simp only [bop, reduceCtorEq] at hz
  exact ⟨_, _, dat_int hp, dat_int hq, k _ H (Same.refl H) (by cases hz; simp only [Dat])⟩
theorem DE.fdiv (ha : DE G X Wx F L A a ea) (hb : DE G X Wx F L A b eb) : DE G X Wx F L A (.bin .fdiv a b) (.BinOp ea .FloorDiv eb pos) := by
  refine DE.bin ha hb op_fdivN fun p q z v u B μ S H Q hz R hp hq k => ?_
  cases p <;> cases q <;> simp only [bop, reduceCtorEq] at hz
  split at hz
  · rename_i hc
    exact ⟨_, _, dat_int hp, dat_int hq, hc, k _ H (Same.refl H) (by cases hz; simp only [Dat])⟩
  · cases hz
theorem DE.mod (ha : DE G X Wx F L A a ea) (hb : DE G X Wx F L A b eb) : DE G X Wx F L A (.bin .mod a b) (.BinOp ea .Mod eb pos) := by
  refine DE.bin ha hb op_modN fun p q z v u B μ S H Q hz R hp hq k => ?_
  cases p <;> cases q <;> simp only [bop, reduceCtorEq] at hz
  split at hz
  · rename_i hc
    exact ⟨_, _, dat_int hp, dat_int hq, hc, k _ H (Same.refl H) (by cases hz; simp only [Dat])⟩
  · cases hz
theorem DE.pow (ha : DE G X Wx F L A a ea) (hb : DE G X Wx F L A b eb) : DE G X Wx F L A (.bin .pow a b) (.BinOp ea .Pow eb pos) := by
  refine DE.bin ha hb op_pow fun p q z v u B μ S H Q hz R hp hq k => ?_
  cases p <;> cases q <;> simp only [bop, reduceCtorEq] at hz
  split at hz
  · rename_i hc
    exact ⟨_, _, dat_int hp, dat_int hq, ⟨hc.1, by have := hc.2.1; omega, hc.2.2⟩, k _ H (Same.refl H) (by cases hz; simp only [Dat])⟩
  · cases hz
/-- a list times an int, a read one -/
theorem DE.mul (ha : DE G X Wx F L A a ea) (hb : DE G X Wx F L A b eb) : DE G X Wx F L A (.bin .mul a b) (.BinOp ea .Mult eb pos) := by
  refine DE.bin ha hb ((op_mul.or op_repT).or op_rep) fun p q z v u B μ S H Q hz R hp hq k => ?_
  cases p <;> cases q <;> simp only [bop, reduceCtorEq] at hz
  · rename_i i j
    split at hz
    · rename_i hc
      refine .inl (.inl ⟨_, _, dat_int hp, dat_int hq, ?_, k _ H (Same.refl H) (by cases hz; simp only [Dat])⟩)
      simp only [smallI, Bool.or_eq_true, decide_eq_true_eq] at hc
      exact hc
    · cases hz
  · rename_i xs j
    split at hz
    · rename_i hc
      obtain ⟨a1, vs, rfl, r1, n1, d1⟩ := dat_list hp
      · refine .inr ⟨a1, j, vs, rfl, dat_int hq, r1, by have := hc.1; omega, by have := hc.2.1; omega, ?_, fun p hp' => k _ _ (same_upd hp') (by cases hz; exact lst_new R hp' (d1.replicate _))⟩
        have h1 : vs.length ≤ 100 := by rw [← d1.length]; exact hc.2.2
        have h2 : j.toNat ≤ 1000 := by have := hc.2.1; omega
        have h3 : vs.length * j.toNat ≤ 100 * 1000 := Nat.mul_le_mul h1 h2
        exact Nat.le_trans h3 (by decide)
    · cases hz
  · rename_i xs j
    split at hz
    · rename_i hc
      obtain ⟨a1, vs, rfl, r1, d1⟩ := dat_tup hp
      refine .inl (.inr ⟨a1, j, vs, rfl, dat_int hq, .inl (.inl r1), ?_, hc.2.1, hc.2.2.1, by rw [← d1.length]; have := hc.2.2.2; omega, fun p hp' => k _ _ (same_upd hp') (by cases hz; exact tup_new R hp' (d1.replicate _))⟩)
      intro z
      have l := d1.length
      rw [z] at l
      have : xs = [] := List.eq_nil_of_length_eq_zero l
      rw [this] at hc
      exact absurd hc.1 (by simp)
    · cases hz
theorem DE.neg (ha : DE G X Wx F L A a ea) : DE G X Wx F L A (.neg a) (.UnaryOp .USub ea pos) := by
  refine DE.op1 (t := tUn (rU fun i => .int (-i))) ha (fun ta h => pe_un un_neg h) (k := negW) (fun ρ S => by rw [ev]) (fun _ _ _ _ h => h) fun x v B μ S H E Q R hx o => ?_
  unfold negW at o
  split at o
  · exact ⟨_, wr_int hx, oke_here o R (by simp only [Dat])⟩
  · exact o.elim
end
end Ci

end
section
set_option linter.all false
set_option autoImplicit false
set_option maxHeartbeats 1000000
namespace Ci
open PySem L2
variable [kI : HasK]

section
variable {G : Glob} {X : Cx} {Wx : WX} {F : FnT} {L : Nat → ActT → List O → R W} {A : ActT} {a b c d : C} {ea eb ec e : Expr} {pos : Pos}

/-- a comparison's rule -/
def CmpOk (G : Glob) (X : Cx) (o : COp) (op : CmpOp) : Prop := ∃ r : R2, OpR X (compareOp op) r ∧ ∀ (x y : W) (v u : V) (B : Addr → Prop) (μ : List Addr) (S : List O) (H : Hp) (Q : VK) (k : Bool),
  compare2 o x y S = ok (.bool k) S → Rel G.T B μ S H → WR H μ (Live B μ S) x v → WR H μ (Live B μ S) y u → Q (.bl k) H → r v u H Q
theorem okB_some {k : Option Bool} {S : List O} {B : Addr → Prop} {μ : List Addr} {H : Hp} {E : XK} {Q : VK} (h : OKE G B (okB k S) μ S H E Q) : ∃ b, okB k S = ok (.bool b) S := by
  cases k with
  | none => exact h.elim
  | some b => exact ⟨b, rfl⟩
theorem compare2_ok {o : COp} {x y : W} {S : List O} {B : Addr → Prop} {μ : List Addr} {H : Hp} {E : XK} {Q : VK} (h : OKE G B (compare2 o x y S) μ S H E Q) : ∃ b, compare2 o x y S = ok (.bool b) S := by
  unfold compare2 at h ⊢
  split at h
  · exact okB_some h
  · exact okB_some h
  · exact h.elim
theorem CmpOk.use {o : COp} {r : R2} (hr : ∀ (x y : W) (v u : V) (B : Addr → Prop) (μ : List Addr) (S : List O) (H : Hp) (Q : VK) (k : Bool),
    compare2 o x y S = ok (.bool k) S → Rel G.T B μ S H → WR H μ (Live B μ S) x v → WR H μ (Live B μ S) y u → Q (.bl k) H → r v u H Q)
    {x y : W} {v u : V} {B : Addr → Prop} {μ : List Addr} {S : List O} {H : Hp} {E : XK} {Q : VK} (R : Rel G.T B μ S H) (wx : WR H μ (Live B μ S) x v) (wy : WR H μ (Live B μ S) y u) (h : OKE G B (compare2 o x y S) μ S H E Q) : r v u H Q := by
  obtain ⟨k, hk⟩ := compare2_ok h
  rw [hk] at h
  exact hr x y v u B μ S H Q k hk R wx wy (oke_here h R (by simp only [Dat]))

theorem ok_inj {p q : PyData} {S : List O} (h : ok p S = ok q S) : p = q := by
  unfold ok at h
  injection h with h1
  injection h1
theorem okB_eq {k : Option Bool} {b : Bool} {S : List O} (h : okB k S = ok (.bool b) S) : k = some b := by
  cases k with
  | none => cases h
  | some c =>
    have q := ok_inj (p := .bool c) (q := .bool b) h
    injection q with q
    rw [q]
theorem compare2_dd {o : COp} {p q : PyData} {k : Bool} {S : List O} (h : compare2 o (.d p) (.d q) S = ok (.bool k) S) : cop2 o p q = some k := okB_eq h

theorem ints2_some {f : Int → Int → Bool} {p q : PyData} {k : Bool} (h : ints2 f p q = some k) : ∃ i j, p = .int i ∧ q = .int j ∧ k = f i j := by
  unfold ints2 at h
  split at h
  · exact ⟨_, _, rfl, rfl, (Option.some.inj h).symm⟩
  · cases h
/-- of two ints -/
theorem CmpOk.ints {o : COp} {op : CmpOp} {f : Int → Int → Bool} (h : OpR X (compareOp op) (rI0 fun i j => .bl (f i j))) (ho : ∀ p q, cop2 o p q = ints2 f p q) (hs : ∀ xs q, scrEq o xs q = none) : CmpOk G X o op :=
  ⟨_, h, fun x y v u B μ S H Q k hk R wx wy q => by
    unfold compare2 at hk
    split at hk
    · have z := okB_eq hk
      rw [ho] at z
      obtain ⟨i, j, rfl, rfl, rfl⟩ := ints2_some z
      exact ⟨i, j, wr_int wx, wr_int wy, q⟩
    · rw [hs] at hk
      cases hk
    · cases hk⟩
theorem CmpOk.lt : CmpOk G X .lt .Lt := .ints op_lt (fun _ _ => rfl) fun _ _ => rfl
theorem CmpOk.le : CmpOk G X .le .LtE := .ints op_le (fun _ _ => rfl) fun _ _ => rfl
theorem CmpOk.gt : CmpOk G X .gt .Gt := .ints op_gt (fun _ _ => rfl) fun _ _ => rfl
theorem CmpOk.ge : CmpOk G X .ge .GtE := .ints op_ge (fun _ _ => rfl) fun _ _ => rfl
theorem eqD_some {p q : PyData} {k : Bool} (h : eqD p q = some k) : SeqAt.shaped p = true ∧ SeqAt.shaped q = true ∧ k = PyData.eqv p q := by
  unfold eqD at h
  split at h
  · rename_i z
    rw [Bool.and_eq_true] at z
    exact ⟨z.1, z.2, (Option.some.inj h).symm⟩
  · cases h
theorem map_not {o : Option Bool} {k : Bool} (h : o.map (!·) = some k) : o = some (!k) := by
  cases o with
  | none => cases h
  | some b => cases h; simp
theorem scr_dp {K : PySem.W.Frag} (hK : K = kI.K) {H : Hp} {μ : List Addr} {L : Addr → Prop} {xs : List PyData} {v : V} (h : WR H μ L (.scr xs) v) : Dp K H v (.list xs) := by
  subst hK
  obtain ⟨a, vs, rfl, r, d⟩ := h
  exact .lst (r.elim (fun z => .inl z.1) .inr) (DatL.dp xs vs d)
theorem CmpOk.eq (hK : X.K = kI.K) (hu : X.A.units + 64 < cLine) : CmpOk G X .eq .Eq := ⟨_, op_eqD hu, fun x y v u B μ S H Q k hk R wx wy q => by
    unfold compare2 at hk
    split at hk
    · rename_i p z
      obtain ⟨h1, h2, rfl⟩ := eqD_some (okB_eq hk)
      exact ⟨p, z, Dat.dp _ _ wx, Dat.dp _ _ wy, h1, h2, q⟩
    · rename_i xs z
      obtain ⟨h1, h2, rfl⟩ := eqD_some (okB_eq hk)
      exact ⟨.list xs, z, scr_dp hK wx, Dat.dp _ _ wy, h1, h2, q⟩
    · cases hk⟩
theorem CmpOk.ne (hK : X.K = kI.K) (hu : X.A.units + 64 < cLine) : CmpOk G X .ne .NotEq := ⟨_, op_neD hu, fun x y v u B μ S H Q k hk R wx wy q => by
    unfold compare2 at hk
    split at hk
    · rename_i p z
      obtain ⟨h1, h2, e⟩ := eqD_some (map_not (okB_eq hk))
      refine ⟨p, z, Dat.dp _ _ wx, Dat.dp _ _ wy, h1, h2, ?_⟩
      rw [← e, Bool.not_not]
      exact q
    · rename_i xs z
      obtain ⟨h1, h2, e⟩ := eqD_some (map_not (okB_eq hk))
      refine ⟨.list xs, z, scr_dp hK wx, Dat.dp _ _ wy, h1, h2, ?_⟩
      rw [← e, Bool.not_not]
      exact q
    · cases hk⟩
theorem inD_some {p q : PyData} {k : Bool} (h : inD p q = some k) : ∃ ys, q = .list ys ∧ SeqAt.shaped p = true ∧ SeqAt.shaped (.list ys) = true ∧ k = ys.any fun z => PyData.eqv z p := by
  unfold inD at h
  split at h
  · rename_i ys e
    have e2 : q = .list ys := by
      unfold listOf at e
      split at e
      · cases e; rfl
      · cases e
    split at h
    · rename_i z
      rw [Bool.and_eq_true] at z
      exact ⟨ys, e2, z.1, z.2, (Option.some.inj h).symm⟩
    · cases h
  · cases h
theorem CmpOk.isin (hu : X.A.units + 65 < cLine) : CmpOk G X .isin .In := ⟨_, op_inD hu, fun x y v u B μ S H Q k hk R wx wy q => by
    unfold compare2 at hk
    split at hk
    · rename_i p z
      obtain ⟨ys, rfl, h1, h2, rfl⟩ := inD_some (okB_eq hk)
      exact ⟨p, ys, Dat.dp _ _ wx, Dat.dp _ _ wy, h1, h2, q⟩
    · cases hk
    · cases hk⟩
theorem CmpOk.notin (hu : X.A.units + 65 < cLine) : CmpOk G X .notin .NotIn := ⟨_, op_notInD hu, fun x y v u B μ S H Q k hk R wx wy q => by
    unfold compare2 at hk
    split at hk
    · rename_i p z
      obtain ⟨ys, rfl, h1, h2, e⟩ := inD_some (map_not (okB_eq hk))
      refine ⟨p, ys, Dat.dp _ _ wx, Dat.dp _ _ wy, h1, h2, ?_⟩
      rw [← e, Bool.not_not]
      exact q
    · cases hk
    · cases hk⟩

theorem DE.cmp {o : COp} {op : CmpOp} (hc : CmpOk G X o op) (ha : DE G X Wx F L A a ea) (hb : DE G X Wx F L A b eb) (hm : behindInMarks op eb = false) : DE G X Wx F L A (.cmp o a b) (.Compare ea [op] [eb] pos) := by
  obtain ⟨r, hr, hk⟩ := hc
  exact DE.op2 (t := tOp r) ha hb (fun ta tb h1 h2 => pe_cmpR hr h1 h2 hm) (k := compare2 o) (fun ρ S => by rw [ev]) (fun _ _ _ _ _ h => h) fun x y v u B μ S H E Q R hx hy z => CmpOk.use hk R hx hy z
theorem DT.cmp {o : COp} {op : CmpOp} (hc : CmpOk G X o op) (ha : DE G X Wx F L A a ea) (hb : DE G X Wx F L A b eb) (hm : behindInMarks op eb = false) : DT G X Wx F L A (.cmp o a b) (.Compare ea [op] [eb] pos) := by
  obtain ⟨r, hr, hk⟩ := hc
  obtain ⟨ta, h1, q1⟩ := ha
  obtain ⟨tb, h2, q2⟩ := hb
  refine ⟨_, pt_cmpR hr h1 h2 hm, fun ρ σ B μ S H Q er rl z => ?_⟩
  have z := z.oke
  rw [ev] at z
  refine q1 ρ σ B μ S H _ er rl (OKE.bind z fun x S1 v μ1 H1 e1 r1 w1 o1 => ?_)
  refine q2 ρ σ B μ1 S1 H1 _ (er.evo rl e1) r1 (OKE.bind o1 fun y S2 u μ2 H2 e2 r2 w2 o2 => ?_)
  exact CmpOk.use hk r2 (w1.evo r1 e2) w2 o2
theorem OKE.bind2 {k : W → List O → R W} {o : COp} {x y : W} {S : List O} {B : Addr → Prop} {μ : List Addr} {H : Hp} {E : XK} {Q : VK} (h : OKE G B ((compare2 o x y S).bind k) μ S H E Q) : ∃ b, compare2 o x y S = ok (.bool b) S ∧ OKE G B (k (.d (.bool b)) S) μ S H E Q := by
  have q : OKE G B (compare2 o x y S) μ S H E (fun _ _ => True) := OKE.bind h fun _ _ _ _ _ _ _ _ _ => trivial
  obtain ⟨b, e⟩ := compare2_ok q
  rw [e] at h
  exact ⟨b, e, h⟩
theorem chain_red {o p : COp} {r r' : R2} {ta tb tc : TE}
    (hk : ∀ (x y : W) (v u : V) (B : Addr → Prop) (μ : List Addr) (S : List O) (H : Hp) (Q : VK) (k : Bool), compare2 o x y S = ok (.bool k) S → Rel G.T B μ S H → WR H μ (Live B μ S) x v → WR H μ (Live B μ S) y u → Q (.bl k) H → r v u H Q)
    (hk' : ∀ (x y : W) (v u : V) (B : Addr → Prop) (μ : List Addr) (S : List O) (H : Hp) (Q : VK) (k : Bool), compare2 p x y S = ok (.bool k) S → Rel G.T B μ S H → WR H μ (Live B μ S) x v → WR H μ (Live B μ S) y u → Q (.bl k) H → r' v u H Q)
    (q1 : ∀ (ρ : Ev) (σ : L2.St) (B : Addr → Prop) (μ : List Addr) (S : List O) (H : Hp) (Q : VK), EnvR H μ (Live B μ S) ρ σ → Rel G.T B μ S H → OKE G B (ev F L A a ρ S) μ S H (fun cls d H' => Wx cls d σ H') Q → ta σ H Q)
    (q2 : ∀ (ρ : Ev) (σ : L2.St) (B : Addr → Prop) (μ : List Addr) (S : List O) (H : Hp) (Q : VK), EnvR H μ (Live B μ S) ρ σ → Rel G.T B μ S H → OKE G B (ev F L A b ρ S) μ S H (fun cls d H' => Wx cls d σ H') Q → tb σ H Q)
    (q3 : ∀ (ρ : Ev) (σ : L2.St) (B : Addr → Prop) (μ : List Addr) (S : List O) (H : Hp) (Q : VK), EnvR H μ (Live B μ S) ρ σ → Rel G.T B μ S H → OKE G B (ev F L A c ρ S) μ S H (fun cls d H' => Wx cls d σ H') Q → tc σ H Q)
    {ρ : Ev} {σ : L2.St} {B : Addr → Prop} {μ : List Addr} {S : List O} {H : Hp} {Q : VK} (er : EnvR H μ (Live B μ S) ρ σ) (rl : Rel G.T B μ S H) (z : OKE G B (ev F L A (.chain o p a b c) ρ S) μ S H (fun cls d H' => Wx cls d σ H') Q) : tChain r r' ta tb tc σ H Q := by
  rw [ev] at z
  refine q1 ρ σ B μ S H _ er rl (OKE.bind z fun x S1 v μ1 H1 e1 r1 w1 o1 => ?_)
  refine q2 ρ σ B μ1 S1 H1 _ (er.evo rl e1) r1 (OKE.bind o1 fun y S2 u μ2 H2 e2 r2 w2 o2 => ?_)
  obtain ⟨k, e, o3⟩ := OKE.bind2 o2
  refine hk x y v u B μ2 S2 H2 _ k e r2 (w1.evo r1 e2) w2 ⟨k, rfl, ?_⟩
  cases k with
  | true =>
    rw [if_pos rfl]
    refine q3 ρ σ B μ2 S2 H2 _ ((er.evo rl e1).evo r1 e2) r2 (OKE.bind (show OKE G B ((ev F L A c ρ S2).bind fun z S4 => compare2 p y z S4) μ2 S2 H2 _ Q from o3) fun z S3 t μ3 H3 e3 r3 w3 o4 => ?_)
    exact CmpOk.use hk' r3 (w2.evo r2 e3) w3 o4
  | false =>
    rw [if_neg Bool.false_ne_true]
    exact oke_here (show OKE G B (ok (.bool false) S2) μ2 S2 H2 _ Q from o3) r2 (by simp only [Dat])
theorem DE.chain {o p : COp} {op op' : CmpOp} (hc : CmpOk G X o op) (hc' : CmpOk G X p op') (ha : DE G X Wx F L A a ea) (hb : DE G X Wx F L A b eb) (hd : DE G X Wx F L A c ec) (hm : lastMarks [op, op'] [eb, ec] = false) :
    DE G X Wx F L A (.chain o p a b c) (.Compare ea [op, op'] [eb, ec] pos) := by
  obtain ⟨r, hr, hk⟩ := hc
  obtain ⟨r', hr', hk'⟩ := hc'
  obtain ⟨ta, h1, q1⟩ := ha
  obtain ⟨tb, h2, q2⟩ := hb
  obtain ⟨tc, h3, q3⟩ := hd
  exact ⟨_, pe_chain hr hr' h1 h2 h3 hm, fun ρ σ B μ S H Q er rl z => chain_red hk hk' q1 q2 q3 er rl z⟩
theorem DT.chain {o p : COp} {op op' : CmpOp} (hc : CmpOk G X o op) (hc' : CmpOk G X p op') (ha : DE G X Wx F L A a ea) (hb : DE G X Wx F L A b eb) (hd : DE G X Wx F L A c ec) (hm : lastMarks [op, op'] [eb, ec] = false) :
    DT G X Wx F L A (.chain o p a b c) (.Compare ea [op, op'] [eb, ec] pos) := by
  obtain ⟨r, hr, hk⟩ := hc
  obtain ⟨r', hr', hk'⟩ := hc'
  obtain ⟨ta, h1, q1⟩ := ha
  obtain ⟨tb, h2, q2⟩ := hb
  obtain ⟨tc, h3, q3⟩ := hd
  exact ⟨_, pt_chain hr hr' h1 h2 h3 hm, fun ρ σ B μ S H Q er rl z => chain_red hk hk' q1 q2 q3 er rl z.oke⟩
theorem isN_red {o : COp} {f : Bool → Bool} {p : PyData} {v : V} {H : Hp} {L : Addr → Prop} (h : Dat H L p v) : decide (v = .non) = isNone p := by
  cases p <;> simp only [Dat] at h <;> first
    | (subst h; simp [isNone])
    | (obtain ⟨a, vs, e, _⟩ := h; subst e; simp [isNone])
    | exact h.elim
end
end Ci

end
section
set_option linter.all false
set_option autoImplicit false
set_option maxHeartbeats 1000000
namespace Ci
open PySem L2
variable [kI : HasK]

section
variable {G : Glob} {X : Cx} {Wx : WX} {F : FnT} {L : Nat → ActT → List O → R W} {A : ActT} {a b c d : C} {ea eb ec e : Expr} {pos : Pos} {rest : List Expr}

theorem isNone_some {p q : PyData} {f : Bool} {k : Bool} (h : (if isNone q = true then some f else none) = some k) : q = .none ∧ k = f := by
  split at h
  · rename_i z
    cases q <;> simp [isNone] at z
    exact ⟨rfl, (Option.some.inj h).symm⟩
  · cases h
theorem CmpOk.isN : CmpOk G X .isN .Is := ⟨_, op_isN, fun x y v u B μ S H Q k hk R wx wy q => by
    unfold compare2 at hk
    split at hk
    · rename_i p z
      obtain ⟨rfl, rfl⟩ := isNone_some (p := p) (okB_eq hk)
      refine ⟨by simpa only [WR, Dat] using wy, ?_⟩
      rw [isN_red (o := .isN) (f := id) wx]
      exact q
    · cases hk
    · cases hk⟩
theorem CmpOk.notN : CmpOk G X .notN .IsNot := ⟨_, op_notN, fun x y v u B μ S H Q k hk R wx wy q => by
    unfold compare2 at hk
    split at hk
    · rename_i p z
      obtain ⟨rfl, rfl⟩ := isNone_some (p := p) (okB_eq hk)
      refine ⟨by simpa only [WR, Dat] using wy, ?_⟩
      rw [isN_red (o := .isN) (f := id) wx]
      exact q
    · cases hk
    · cases hk⟩

def DW (G : Glob) (X : Cx) (Wx : WX) (F : FnT) (L : Nat → ActT → List O → R W) (A : ActT) (c : C) (e : Expr) : Prop := ∃ t : TT, PW X e t ∧ ∀ (ρ : Ev) (σ : L2.St) (B : Addr → Prop) (μ : List Addr) (S : List O) (H : Hp) (Q : Bool → Hp → Prop), EnvR H μ (Live B μ S) ρ σ → Rel G.T B μ S H → OKT G B (ev F L A c ρ S) μ S H (fun cls d H' => Wx cls d σ H') Q → t σ H Q
theorem DW.dt (h : DW G X Wx F L A c e) : DT G X Wx F L A c e := by
  obtain ⟨t, ht, q⟩ := h
  exact ⟨t, ht.pt, q⟩
theorem onB_stuck {w : W} {a b : R W} (h : ∀ k, w ≠ .d (.bool k)) : onB w a b = .stuck := by
  unfold onB
  split
  · exact absurd rfl (h true)
  · exact absurd rfl (h false)
  · rfl
theorem okt_here {k : Bool} {B : Addr → Prop} {μ : List Addr} {S : List O} {H : Hp} {E : XK} {Q : Bool → Hp → Prop} (h : OKT G B (ok (.bool k) S) μ S H E Q) (r : Rel G.T B μ S H) : Q k H := h μ H .refl r
theorem DW.and1 (h : DT G X Wx F L A a ea) : DW G X Wx F L A a (.BoolOp .And [ea] pos) := by
  obtain ⟨t, ht, q⟩ := h
  exact ⟨t, pw_and1 ht, q⟩
theorem DW.or1 (h : DT G X Wx F L A a ea) : DW G X Wx F L A a (.BoolOp .Or [ea] pos) := by
  obtain ⟨t, ht, q⟩ := h
  exact ⟨t, pw_or1 ht, q⟩
theorem DW.and (ha : DT G X Wx F L A a ea) (hb : DW G X Wx F L A b (.BoolOp .And (eb :: rest) pos)) : DW G X Wx F L A (.and_ a b) (.BoolOp .And (ea :: eb :: rest) pos) := by
  obtain ⟨t, h1, q1⟩ := ha
  obtain ⟨u, h2, q2⟩ := hb
  refine ⟨_, pw_and h1 h2, fun ρ σ B μ S H Q er rl z => ?_⟩
  rw [ev] at z
  refine q1 ρ σ B μ S H _ er rl (OKT.bindT z (fun w S1 h => onB_stuck h) fun k S1 μ1 H1 e1 r1 o1 => ?_)
  cases k with
  | true => exact iteT (q2 ρ σ B μ1 S1 H1 Q (er.evo rl e1) r1 o1)
  | false => exact iteF (okt_here (show OKT G B (ok (.bool false) S1) μ1 S1 H1 _ Q from o1) r1)
theorem DW.or (ha : DT G X Wx F L A a ea) (hb : DW G X Wx F L A b (.BoolOp .Or (eb :: rest) pos)) : DW G X Wx F L A (.or_ a b) (.BoolOp .Or (ea :: eb :: rest) pos) := by
  obtain ⟨t, h1, q1⟩ := ha
  obtain ⟨u, h2, q2⟩ := hb
  refine ⟨_, pw_or h1 h2, fun ρ σ B μ S H Q er rl z => ?_⟩
  rw [ev] at z
  refine q1 ρ σ B μ S H _ er rl (OKT.bindT z (fun w S1 h => onB_stuck h) fun k S1 μ1 H1 e1 r1 o1 => ?_)
  cases k with
  | true => exact iteT (okt_here (show OKT G B (ok (.bool true) S1) μ1 S1 H1 _ Q from o1) r1)
  | false => exact iteF (q2 ρ σ B μ1 S1 H1 Q (er.evo rl e1) r1 o1)
theorem DT.not (ha : DT G X Wx F L A a ea) : DT G X Wx F L A (.not_ a) (.UnaryOp .Not ea pos) := by
  obtain ⟨t, h1, q1⟩ := ha
  refine ⟨_, pt_not h1, fun ρ σ B μ S H Q er rl z => ?_⟩
  rw [ev] at z
  refine q1 ρ σ B μ S H _ er rl (OKT.bindT z (fun w S1 h => onB_stuck h) fun k S1 μ1 H1 e1 r1 o1 => ?_)
  cases k with
  | true => exact okt_here (show OKT G B (ok (.bool false) S1) μ1 S1 H1 _ Q from o1) r1
  | false => exact okt_here (show OKT G B (ok (.bool true) S1) μ1 S1 H1 _ Q from o1) r1
/-- what is told where a bool is wanted -/
theorem bind_bool {r : R W} {k : W → List O → R W} {B : Addr → Prop} {μ : List Addr} {S : List O} {H : Hp} {E : XK} {Q P : VK} (h : OKE G B (r.bind k) μ S H E Q) (hn : ∀ w S1, (∀ b, w ≠ .d (.bool b)) → k w S1 = .stuck)
    (hk : ∀ w S1 μ1 H1, Evo μ S H μ1 S1 H1 → Rel G.T B μ1 S1 H1 → OKE G B (k (.d (.bool w)) S1) μ1 S1 H1 E Q → P (.bl w) H1) : OKE G B r μ S H E P := by
  have q : OKT G B r μ S H E (fun b H1 => P (.bl b) H1) := OKE.bindT h hn hk
  cases r with
  | ok w S1 =>
    cases w with
    | d p =>
      cases p with
      | bool b =>
        intro v μ1 H1 e1 r1 w1
        have e : v = V.bl b := dat_bool (H := H1) (L := Live B μ1 S1) w1
        rw [e]
        exact q μ1 H1 e1 r1
      | _ => exact q.elim
    | ref n => exact q.elim
    | scr n => exact q.elim
  | err c f S1 => exact q
  | stuck => exact q
theorem DE.one {op : BoolOp} (h : DE G X Wx F L A a ea) : DE G X Wx F L A a (.BoolOp op [ea] pos) := by
  obtain ⟨t, ht, q⟩ := h
  exact ⟨t, pe_one ht, q⟩
theorem DE.and (ha : DE G X Wx F L A a ea) (hb : DE G X Wx F L A b (.BoolOp .And (eb :: rest) pos)) : DE G X Wx F L A (.and_ a b) (.BoolOp .And (ea :: eb :: rest) pos) := by
  obtain ⟨t, h1, q1⟩ := ha
  obtain ⟨u, h2, q2⟩ := hb
  refine ⟨_, pe_and h1 h2, fun ρ σ B μ S H Q er rl z => ?_⟩
  rw [ev] at z
  refine q1 ρ σ B μ S H _ er rl (bind_bool z (fun w S1 h => onB_stuck h) fun k S1 μ1 H1 e1 r1 o1 => ⟨k, rfl, ?_⟩)
  cases k with
  | true => exact iteT (q2 ρ σ B μ1 S1 H1 Q (er.evo rl e1) r1 o1)
  | false => exact iteF (oke_here (show OKE G B (ok (.bool false) S1) μ1 S1 H1 _ Q from o1) r1 (by simp only [Dat]))
theorem DE.or (ha : DE G X Wx F L A a ea) (hb : DE G X Wx F L A b (.BoolOp .Or (eb :: rest) pos)) : DE G X Wx F L A (.or_ a b) (.BoolOp .Or (ea :: eb :: rest) pos) := by
  obtain ⟨t, h1, q1⟩ := ha
  obtain ⟨u, h2, q2⟩ := hb
  refine ⟨_, pe_or h1 h2, fun ρ σ B μ S H Q er rl z => ?_⟩
  rw [ev] at z
  refine q1 ρ σ B μ S H _ er rl (bind_bool z (fun w S1 h => onB_stuck h) fun k S1 μ1 H1 e1 r1 o1 => ⟨k, rfl, ?_⟩)
  cases k with
  | true => exact iteT (oke_here (show OKE G B (ok (.bool true) S1) μ1 S1 H1 _ Q from o1) r1 (by simp only [Dat]))
  | false => exact iteF (q2 ρ σ B μ1 S1 H1 Q (er.evo rl e1) r1 o1)
theorem DE.not (ha : DE G X Wx F L A a ea) : DE G X Wx F L A (.not_ a) (.UnaryOp .Not ea pos) := by
  obtain ⟨t, h1, q1⟩ := ha
  refine ⟨_, pe_not h1, fun ρ σ B μ S H Q er rl z => ?_⟩
  rw [ev] at z
  refine q1 ρ σ B μ S H _ er rl (bind_bool z (fun w S1 h => onB_stuck h) fun k S1 μ1 H1 e1 r1 o1 => ⟨k, rfl, ?_⟩)
  cases k with
  | true => exact oke_here (show OKE G B (ok (.bool false) S1) μ1 S1 H1 _ Q from o1) r1 (by simp only [Dat]; rfl)
  | false => exact oke_here (show OKE G B (ok (.bool true) S1) μ1 S1 H1 _ Q from o1) r1 (by simp only [Dat]; rfl)
theorem DE.ife (hc : DT G X Wx F L A c ec) (ha : DE G X Wx F L A a ea) (hb : DE G X Wx F L A b eb) : DE G X Wx F L A (.ife c a b) (.IfExp ec ea eb pos) := by
  obtain ⟨t, h0, q0⟩ := hc
  obtain ⟨ta, h1, q1⟩ := ha
  obtain ⟨tb, h2, q2⟩ := hb
  refine ⟨_, pe_ifExp h0 h1 h2, fun ρ σ B μ S H Q er rl z => ?_⟩
  rw [ev] at z
  refine q0 ρ σ B μ S H _ er rl (OKE.bindT z (fun w S1 h => onB_stuck h) fun k S1 μ1 H1 e1 r1 o1 => ?_)
  cases k with
  | true => exact iteT (q1 ρ σ B μ1 S1 H1 Q (er.evo rl e1) r1 o1)
  | false => exact iteF (q2 ρ σ B μ1 S1 H1 Q (er.evo rl e1) r1 o1)

theorem DE.tup {cs : List C} {es : List Expr} {n : Nat} (h : DA G X Wx F L A cs es) : DE G X Wx F L A (.tup cs) (.Tuple es n pos) := by
  obtain ⟨t, ht, q⟩ := h
  refine ⟨_, pe_tup ht, fun ρ σ B μ S H Q er rl z => ?_⟩
  rw [ev] at z
  refine q ρ σ B μ S H _ er rl (OKE.bindA z fun ws S1 vs μ1 H1 e1 r1 w1 o1 => ?_)
  unfold tupW at o1
  split at o1
  · rename_i xs hx
    split at o1
    · rename_i hl
      have d := w1.data hx
      exact ⟨by rw [← d.length]; exact sz5 hl, fun p hp => oke_ok o1 r1 (same_upd hp) (tup_new r1 hp d)⟩
    · exact o1.elim
  · exact o1.elim

/-- a new thing that may change stands at p -/
theorem LiveS.snoc {μ : List Addr} {S : List O} {p a : Addr} {o : O} (hl : μ.length = S.length) (ho : o ≠ O.dead) : LiveS (μ ++ [p]) (S ++ [o]) a ↔ LiveS μ S a ∨ a = p := by
  constructor
  · rintro ⟨n, q, h1, h2, h3⟩
    by_cases hn : n < μ.length
    · rw [List.getElem?_append_left hn] at h1
      rw [List.getElem?_append_left (by omega)] at h2
      exact .inl ⟨n, q, h1, h2, h3⟩
    · rw [List.getElem?_append_right (by omega)] at h1
      obtain ⟨k, hk⟩ : ∃ k, k = n - μ.length := ⟨_, rfl⟩
      rw [← hk] at h1
      cases k with
      | zero => exact .inr (by simpa using h1.symm)
      | succ k => simp at h1
  · rintro (⟨n, q, h1, h2, h3⟩ | rfl)
    · exact ⟨n, q, by rw [List.getElem?_append_left (List.getElem?_eq_some_iff.mp h1).1]; exact h1, by rw [List.getElem?_append_left (List.getElem?_eq_some_iff.mp h2).1]; exact h2, h3⟩
    · exact ⟨μ.length, o, by simp, by rw [hl]; simp, ho⟩
theorem evo_new {T : List (Addr × Str)} {B : Addr → Prop} {μ : List Addr} {S : List O} {H : Hp} {p : Addr} {o : O} {ho : HO} (R : Rel T B μ S H) (hp : H p = none) (hd : o ≠ O.dead) : Evo μ S H (μ ++ [p]) (S ++ [o]) (upd H p ho) where
  pre := fun n a h => by rw [List.getElem?_append_left (List.getElem?_eq_some_iff.mp h).1]; exact h
  keep := fun a u h _ _ => same_upd hp a u h
  new := fun a l => by
    rcases (LiveS.snoc R.len hd).mp l with z | z
    · exact .inl z
    · rw [z]; exact .inr (.of hp)
theorem rel_new {T : List (Addr × Str)} {B : Addr → Prop} {μ : List Addr} {S : List O} {H : Hp} {p : Addr} {o : O} {ho : HO} (R : Rel T B μ S H) (hp : H p = none) (hd : o ≠ O.dead)
    (hor : OR (upd H p ho) (μ ++ [p]) (Live B (μ ++ [p]) (S ++ [o])) p o) : Rel T B (μ ++ [p]) (S ++ [o]) (upd H p ho) := by
  have E := evo_new (ho := ho) R hp hd
  refine ⟨by simp [R.len], fun i j a oi oj h1 h2 h3 h4 d1 d2 => ?_, fun i a q h1 h2 => ?_, R.tabs.ext (same_upd hp), fun a h => ?_, fun a h l => ?_⟩
  · have old : ∀ (k : Nat) (x : Addr) (q : O), k < μ.length → (μ ++ [p])[k]? = some x → (S ++ [o])[k]? = some q → q ≠ O.dead → Live B μ S x := fun k x q hk a1 a2 a3 =>
      .inr ⟨k, q, by rw [List.getElem?_append_left hk] at a1; exact a1, by rw [List.getElem?_append_left (by rw [← R.len]; exact hk)] at a2; exact a2, a3⟩
    have bd : ∀ (k : Nat) (x : Addr), (μ ++ [p])[k]? = some x → ¬ k < μ.length → k = μ.length ∧ x = p := fun k x a1 hk => by
      have z := (List.getElem?_eq_some_iff.mp a1).1
      rw [List.length_append, List.length_singleton] at z
      have e : k = μ.length := by omega
      subst e
      rw [List.getElem?_append_right (Nat.le_refl _)] at a1
      exact ⟨rfl, by simpa using a1.symm⟩
    by_cases hi : i < μ.length
    · by_cases hj : j < μ.length
      · refine R.inj i j a oi oj ?_ ?_ ?_ ?_ d1 d2
        · rw [List.getElem?_append_left hi] at h1; exact h1
        · rw [List.getElem?_append_left hj] at h2; exact h2
        · rw [List.getElem?_append_left (by rw [← R.len]; exact hi)] at h3; exact h3
        · rw [List.getElem?_append_left (by rw [← R.len]; exact hj)] at h4; exact h4
      · obtain ⟨_, e⟩ := bd j a h2 hj
        exact absurd hp (by rw [← e]; exact R.some_of (old i a oi hi h1 h3 d1))
    · obtain ⟨e1, e⟩ := bd i a h1 hi
      by_cases hj : j < μ.length
      · exact absurd hp (by rw [← e]; exact R.some_of (old j a oj hj h2 h4 d2))
      · obtain ⟨e2, _⟩ := bd j a h2 hj
        rw [e1, e2]
  · by_cases hi : i < μ.length
    · rw [List.getElem?_append_left hi] at h1
      rw [List.getElem?_append_left (by rw [← R.len]; exact hi)] at h2
      have z := R.obj i a q h1 h2
      cases q with
      | lst ds => obtain ⟨vs, e1, d⟩ := z; exact ⟨vs, same_upd hp _ _ e1, DatL.evo R E ds vs d⟩
      | dK kvs => obtain ⟨kv, e1, d⟩ := z; exact ⟨kv, same_upd hp _ _ e1, d.evo R E⟩
      | dT kvs => obtain ⟨kv, e1, d⟩ := z; exact ⟨kv, same_upd hp _ _ e1, d.evo R E⟩
      | dead => trivial
    · rw [List.getElem?_append_right (by omega)] at h1
      rw [List.getElem?_append_right (by rw [← R.len]; omega)] at h2
      have z : i - μ.length = 0 := by
        cases k : i - μ.length with
        | zero => rfl
        | succ n => rw [k] at h1; simp at h1
      rw [z] at h1
      rw [← R.len, z] at h2
      have e1 : a = p := by simpa using h1.symm
      have e2 : q = o := by simpa using h2.symm
      rw [e1, e2]
      exact hor
  · obtain ⟨vs, q⟩ := R.bl a h
    exact ⟨vs, same_upd hp _ _ q⟩
  · rcases (LiveS.snoc R.len hd).mp l with z | z
    · exact R.bn a h z
    · obtain ⟨vs, q⟩ := R.bl a h
      rw [z, hp] at q
      cases q
/-- a list just made, as one that may change or not -/
theorem lstAs_ok {m : Bool} {xs : List PyData} {B : Addr → Prop} {μ : List Addr} {S : List O} {H : Hp} {E : XK} {Q : VK} (z : OKE G B (lstAs m xs S) μ S H E Q) (R : Rel G.T B μ S H) {p : Addr} {vs : List V} (hp : H p = none) (d : DatL H (Live B μ S) xs vs) : Q (.ref p) (upd H p (.lst vs)) := by
  unfold lstAs at z
  cases m with
  | true =>
    rw [if_pos rfl] at z
    have E' := evo_new (o := .lst xs) (ho := .lst vs) R hp (by intro q; cases q)
    refine z (.ref p) (μ ++ [p]) _ E' (rel_new R hp (by intro q; cases q) ⟨vs, upd_same, DatL.evo R E' xs vs d⟩) ⟨p, ?_, rfl⟩
    rw [← R.len]
    simp
  | false =>
    rw [if_neg Bool.false_ne_true] at z
    exact oke_ok z R (same_upd hp) (lst_new R hp d)
theorem DE.lst {m : Bool} {cs : List C} {es : List Expr} (h : DA G X Wx F L A cs es) : DE G X Wx F L A (.lst m cs) (.List es pos) := by
  obtain ⟨t, ht, q⟩ := h
  refine ⟨_, pe_lst ht, fun ρ σ B μ S H Q er rl z => ?_⟩
  rw [ev] at z
  refine q ρ σ B μ S H _ er rl (OKE.bindA z fun ws S1 vs μ1 H1 e1 r1 w1 o1 => ?_)
  unfold lstW at o1
  split at o1
  · rename_i xs hx
    split at o1
    · rename_i hl
      have d := w1.data hx
      exact ⟨by rw [← d.length]; exact sz5 hl, fun p hp => lstAs_ok o1 r1 hp d⟩
    · exact o1.elim
  · exact o1.elim
end
end Ci

end
section
set_option linter.all false
set_option autoImplicit false
set_option maxHeartbeats 1000000
namespace Ci
open PySem L2
variable [kI : HasK]

section
variable {G : Glob} {X : Cx} {Wx : WX} {F : FnT} {L : Nat → ActT → List O → R W} {A : ActT} {a b c d : C} {ea eb ec e : Expr} {p pos : Pos} {x : Str}

/-- a call of a built-in function, by values -/
def CalOk (G : Glob) (X : Cx) (f : Value) (k : List W → List O → R W) : Prop := ∃ r : List V → Hp → VK → Prop, CallR X f r ∧ ∀ (ws : List W) (vs : List V) (B : Addr → Prop) (μ : List Addr) (S : List O) (H : Hp) (E : XK) (Q : VK),
  Rel G.T B μ S H → WRs H μ (Live B μ S) ws vs → OKE G B (k ws S) μ S H E Q → r vs H Q
def one1 (k : W → List O → R W) : List W → List O → R W
  | [w], S => k w S
  | _, _ => .stuck
def one2 (k : W → W → List O → R W) : List W → List O → R W
  | [w, u], S => k w u S
  | _, _ => .stuck
theorem CalOk.mk1 {f : Value} {k : W → List O → R W} {r : List V → Hp → VK → Prop} (h : CallR X f r)
    (hk : ∀ (w : W) (v : V) (B : Addr → Prop) (μ : List Addr) (S : List O) (H : Hp) (E : XK) (Q : VK), Rel G.T B μ S H → WR H μ (Live B μ S) w v → OKE G B (k w S) μ S H E Q → r [v] H Q) : CalOk G X f (one1 k) :=
  ⟨r, h, fun ws vs B μ S H E Q R w o => by
    unfold one1 at o
    split at o
    · obtain ⟨v, t, rfl, h1, h2⟩ := w
      have h2 : t = [] := h2
      subst h2
      exact hk _ v B μ S H E Q R h1 o
    · exact o.elim⟩
theorem CalOk.mk2 {f : Value} {k : W → W → List O → R W} {r : List V → Hp → VK → Prop} (h : CallR X f r)
    (hk : ∀ (w w2 : W) (v v2 : V) (B : Addr → Prop) (μ : List Addr) (S : List O) (H : Hp) (E : XK) (Q : VK), Rel G.T B μ S H → WR H μ (Live B μ S) w v → WR H μ (Live B μ S) w2 v2 → OKE G B (k w w2 S) μ S H E Q → r [v, v2] H Q) : CalOk G X f (one2 k) :=
  ⟨r, h, fun ws vs B μ S H E Q R w o => by
    unfold one2 at o
    split at o
    · obtain ⟨v, t, rfl, h1, v2, t2, rfl, h3, h4⟩ := w
      have h4 : t2 = [] := h4
      subst h4
      exact hk _ _ v v2 B μ S H E Q R h1 h3 o
    · exact o.elim⟩
theorem evs_one {k : W → List O → R W} {ρ : Ev} {S : List O} : (evs F L A [a] ρ S).bind (one1 k) = (ev F L A a ρ S).bind k := by
  simp only [evs]
  cases ev F L A a ρ S <;> rfl
theorem evs_two {k : W → W → List O → R W} {ρ : Ev} {S : List O} : (evs F L A [a, b] ρ S).bind (one2 k) = (ev F L A a ρ S).bind fun x S1 => (ev F L A b ρ S1).bind fun y S2 => k x y S2 := by
  simp only [evs]
  cases ev F L A a ρ S with
  | ok w S1 =>
    simp only [R.bind]
    cases ev F L A b ρ S1 <;> rfl
  | err c f S1 => rfl
  | stuck => rfl
theorem DE.callW {k : List W → List O → R W} {cs : List C} {es : List Expr} {f : Value} (hc : CalOk G X f k) (ha : DA G X Wx F L A cs es) (hev : ∀ ρ S, ev F L A c ρ S = (evs F L A cs ρ S).bind k)
    (hp : ∀ (r : List V → Hp → VK → Prop) (t : TA), CallR X f r → PA X es t → PE X e (tCB r t)) : DE G X Wx F L A c e := by
  obtain ⟨r, hr, hk⟩ := hc
  obtain ⟨t, ht, q⟩ := ha
  refine ⟨_, hp r t hr ht, fun ρ σ B μ S H Q er rl z => ?_⟩
  rw [hev] at z
  exact q ρ σ B μ S H _ er rl (OKE.bindA z fun ws S1 vs μ1 H1 e1 r1 w1 o1 => hk ws vs B μ1 S1 H1 _ Q r1 w1 o1)
theorem DE.p1B {q : P1} {id : String} (hc : CalOk G X (.builtin id) (one1 (prim1 q))) (ha : DA G X Wx F L A [a] [ea]) (hg : Gl X x) (hm : X.mg x = Option.none) (hv : bootBuiltins x = some (.builtin id)) (hn : x ≠ "__name__") (hdb : (x == ("__debug__" : Str)) = false)
    (he : starEach [ea] X.env = (false, eval ea X.env) :: starEach [] X.env) (hpl : (backTo pos (starEach [] X.env)).any (·.1) = false) : DE G X Wx F L A (.p1 q a) (.Call (.Name x p) [ea] [] pos) :=
  DE.callW hc ha (fun ρ S => by rw [ev, evs_one]) fun r t h1 h2 => pe_callB h1 hg hm hv h2 hn hdb he hpl
theorem DE.p1T {q : P1} {id : String} (hc : CalOk G X (.type id) (one1 (prim1 q))) (ha : DA G X Wx F L A [a] [ea]) (hg : Gl X x) (hm : X.mg x = Option.none) (hv : bootBuiltins x = some (.type id)) (hn : x ≠ "__name__") (hdb : (x == ("__debug__" : Str)) = false)
    (he : starEach [ea] X.env = (false, eval ea X.env) :: starEach [] X.env) (hpl : (backTo pos (starEach [] X.env)).any (·.1) = false) : DE G X Wx F L A (.p1 q a) (.Call (.Name x p) [ea] [] pos) :=
  DE.callW hc ha (fun ρ S => by rw [ev, evs_one]) fun r t h1 h2 => pe_callTy h1 hg hm hv h2 hn hdb he hpl
theorem DE.p2B {q : P2} {id : String} (hc : CalOk G X (.builtin id) (one2 (prim2 q))) (ha : DA G X Wx F L A [a, b] [ea, eb]) (hg : Gl X x) (hm : X.mg x = Option.none) (hv : bootBuiltins x = some (.builtin id)) (hn : x ≠ "__name__") (hdb : (x == ("__debug__" : Str)) = false)
    (he : starEach [ea, eb] X.env = (false, eval ea X.env) :: starEach [eb] X.env) (hpl : (backTo pos (starEach [eb] X.env)).any (·.1) = false) : DE G X Wx F L A (.p2 q a b) (.Call (.Name x p) [ea, eb] [] pos) :=
  DE.callW hc ha (fun ρ S => by rw [ev, evs_two]) fun r t h1 h2 => pe_callB h1 hg hm hv h2 hn hdb he hpl
theorem DE.p2F {q : P2} {id : String} (hc : CalOk G X (.builtin id) (one2 (prim2 q))) (ha : DA G X Wx F L A [a, b] [ea, eb]) (hg : Gl X x) (hm : X.mg x = some (.builtin id)) (hdb : (x == ("__debug__" : Str)) = false)
    (he : starEach [ea, eb] X.env = (false, eval ea X.env) :: starEach [eb] X.env) (hpl : (backTo pos (starEach [eb] X.env)).any (·.1) = false) : DE G X Wx F L A (.p2 q a b) (.Call (.Name x p) [ea, eb] [] pos) :=
  DE.callW hc ha (fun ρ S => by rw [ev, evs_two]) fun r t h1 h2 => pe_callBfun h1 hg hm h2 hdb he hpl

theorem seq_of {w : W} {v : V} {B : Addr → Prop} {μ : List Addr} {S : List O} {H : Hp} {xs : List PyData} {K : PySem.W.Frag} (hK : K = kI.K) (R : Rel G.T B μ S H) (r : WR H μ (Live B μ S) w v) (h : seqOf w S = some xs) :
    ∃ a vs, v = .ref a ∧ DatL H (Live B μ S) xs vs ∧ ((SqL K H a vs ∧ ((∃ ys, w = .d (.list ys)) ∨ (∃ n, w = .ref n) ∨ ∃ ys, w = .scr ys)) ∨ (SqT K H a vs ∧ w = .d (.tuple xs))) := by
  unfold seqOf at h
  split at h
  · cases h
    obtain ⟨a, vs, e, h1, _, d⟩ := dat_list (H := H) (L := Live B μ S) r
    exact ⟨a, vs, e, d, .inl ⟨.inl (.inl h1), .inl ⟨_, rfl⟩⟩⟩
  · cases h
    obtain ⟨a, vs, e, h1, d⟩ := dat_tup (H := H) (L := Live B μ S) r
    exact ⟨a, vs, e, d, .inr ⟨.inl (.inl h1), rfl⟩⟩
  · rename_i n
    split at h
    · rename_i ys hs
      cases h
      obtain ⟨a, h1, h2⟩ := r
      obtain ⟨vs, h3, d⟩ := R.obj n a _ h1 hs
      exact ⟨a, vs, h2, d, .inl ⟨.inl (.inl h3), .inr (.inl ⟨n, rfl⟩)⟩⟩
    · cases h
  · cases h
    subst hK
    obtain ⟨a, vs, e, h1, d⟩ := r
    exact ⟨a, vs, e, d, .inl ⟨h1.elim (fun z => .inl z.1) .inr, .inr (.inr ⟨_, rfl⟩)⟩⟩
  · cases h
theorem dat_ints {H : Hp} {L : Addr → Prop} : ∀ {xs : List PyData} {vs : List V} {ns : List Int}, DatL H L xs vs → intsOf xs = some ns → vs = ns.map V.int
  | [], vs, ns, d, h => by
    simp only [DatL] at d
    have h : some [] = some ns := h
    cases h
    rw [d]; rfl
  | x :: xs, vs, ns, d, h => by
    simp only [DatL] at d
    obtain ⟨v, r, e, h1, h2⟩ := d
    cases x with
    | int i =>
      have h : (intsOf xs).map (i :: ·) = some ns := h
      cases k : intsOf xs with
      | none => rw [k] at h; cases h
      | some ms =>
        rw [k] at h
        cases h
        rw [e, dat_int h1, dat_ints h2 k]
        rfl
    | _ => cases h

theorem CalOk.len (hK : X.K = kI.K) : CalOk G X (.builtin "len") (one1 (prim1 .len)) := CalOk.mk1 call_len fun w v B μ S H E Q R r o => by
  have main : ∀ {w : W} {v : V}, WR H μ (Live B μ S) w v → OKE G B (match seqOf w S with
      | some xs => ok (.int xs.length) S
      | none => .stuck) μ S H E Q → ∃ x n, [v] = [x] ∧ LenV X.K x H n ∧ Q (V.int (n : Int)) H := by
    intro w v r o
    split at o
    · rename_i xs hx
      obtain ⟨a, vs, rfl, d, h⟩ := seq_of (K := X.K) hK R r hx
      refine ⟨_, vs.length, rfl, ?_, oke_here o R (by simp only [Dat]; rw [d.length])⟩
      rcases h with ⟨h, _⟩ | ⟨h, _⟩
      · exact .inl ⟨vs, h, rfl⟩
      · exact .inr ⟨vs, h, rfl⟩
    · exact o.elim
  unfold prim1 at o
  dsimp only at o
  split at o
  · rename_i s
    split at o
    · rename_i hl
      have e : v = .str s := by simpa only [WR, Dat] using r
      subst e
      exact ⟨_, s.length, rfl, ⟨sz5 hl, rfl⟩, oke_here o R (by simp only [Dat])⟩
    · exact o.elim
  · exact main r o
theorem CalOk.int_ : CalOk G X (.type "int") (one1 (prim1 .int_)) := CalOk.mk1 call_int1 fun w v B μ S H E Q R r o => by
  unfold prim1 at o
  dsimp only at o
  split at o
  · rename_i i
    have e := wr_int r
    subst e
    exact .inl ⟨i, rfl, oke_here o R (by simp only [Dat])⟩
  · exact o.elim
theorem CalOk.tuple_ : CalOk G X (.type "tuple") (one1 (prim1 .tuple_)) := CalOk.mk1 call_tuple_of fun w v B μ S H E Q R r o => by
  unfold prim1 at o
  dsimp only at o
  split at o
  · rename_i xs
    obtain ⟨a, vs, e, h1, d⟩ := dat_tup (H := H) (L := Live B μ S) r
    subst e
    exact ⟨a, vs, rfl, .inr ⟨.inl (.inl h1), oke_here o R r⟩⟩
  · rename_i xs
    obtain ⟨a, vs, e, h1, _, d⟩ := dat_list (H := H) (L := Live B μ S) r
    subst e
    exact ⟨a, vs, rfl, .inl ⟨.inl (.inl h1), fun l hl => oke_ok o R (same_upd hl) (tup_new R hl d)⟩⟩
  · rename_i n
    split at o
    · rename_i xs hs
      obtain ⟨a, h1, h2⟩ := r
      obtain ⟨vs, h3, d⟩ := R.obj n a _ h1 hs
      subst h2
      exact ⟨a, vs, rfl, .inl ⟨.inl (.inl h3), fun l hl => oke_ok o R (same_upd hl) (tup_new R hl d)⟩⟩
    · exact o.elim
  · exact o.elim
theorem CalOk.list_ (hK : X.K = kI.K) : CalOk G X (.type "list") (one1 (prim1 .list_)) := CalOk.mk1 call_list_of fun w v B μ S H E Q R r o => by
  unfold prim1 at o
  dsimp only at o
  split at o
  · rename_i xs hx
    obtain ⟨a, vs, rfl, d, h⟩ := seq_of (K := X.K) hK R r hx
    refine ⟨a, vs, rfl, ?_, fun l hl => oke_ok o R (same_upd hl) (lst_new R hl d)⟩
    rcases h with ⟨h, _⟩ | ⟨h, _⟩
    · exact .inl h
    · exact .inr h
  · exact o.elim
theorem maxI_is : ∀ (r : List Int) (x : Int), maxI x r ∈ x :: r ∧ ∀ y ∈ x :: r, y ≤ maxI x r
  | [], x => ⟨by simp [maxI], fun y hy => by simp at hy; simp [maxI, hy]⟩
  | z :: r, x => by
    unfold maxI
    have hx : x ≤ (if z > x then z else x) ∧ z ≤ (if z > x then z else x) ∧ ((if z > x then z else x) = x ∨ (if z > x then z else x) = z) := by split <;> omega
    generalize (if z > x then z else x) = t at hx
    obtain ⟨h1, h2⟩ := maxI_is r t
    have h3 := h2 _ List.mem_cons_self
    refine ⟨?_, fun y hy => ?_⟩
    · rcases List.mem_cons.mp h1 with e | e
      · rw [e]; rcases hx.2.2 with q | q <;> rw [q] <;> simp
      · exact List.mem_cons_of_mem _ (List.mem_cons_of_mem _ e)
    · rcases List.mem_cons.mp hy with e | e
      · rw [e]; omega
      · rcases List.mem_cons.mp e with e | e
        · rw [e]; omega
        · exact h2 _ (List.mem_cons_of_mem _ e)
theorem minI_is : ∀ (r : List Int) (x : Int), minI x r ∈ x :: r ∧ ∀ y ∈ x :: r, minI x r ≤ y
  | [], x => ⟨by simp [minI], fun y hy => by simp at hy; simp [minI, hy]⟩
  | z :: r, x => by
    unfold minI
    have hx : (if z < x then z else x) ≤ x ∧ (if z < x then z else x) ≤ z ∧ ((if z < x then z else x) = x ∨ (if z < x then z else x) = z) := by split <;> omega
    generalize (if z < x then z else x) = t at hx
    obtain ⟨h1, h2⟩ := minI_is r t
    have h3 := h2 _ List.mem_cons_self
    refine ⟨?_, fun y hy => ?_⟩
    · rcases List.mem_cons.mp h1 with e | e
      · rw [e]; rcases hx.2.2 with q | q <;> rw [q] <;> simp
      · exact List.mem_cons_of_mem _ (List.mem_cons_of_mem _ e)
    · rcases List.mem_cons.mp hy with e | e
      · rw [e]; omega
      · rcases List.mem_cons.mp e with e | e
        · rw [e]; omega
        · exact h2 _ (List.mem_cons_of_mem _ e)
theorem lst_of {w : W} {v : V} {B : Addr → Prop} {μ : List Addr} {S : List O} {H : Hp} {xs : List PyData} (R : Rel G.T B μ S H) (r : WR H μ (Live B μ S) w v) (h : lstOf w S = some xs) : ∃ a vs, v = .ref a ∧ DatL H (Live B μ S) xs vs ∧ H a = some (.lst vs) := by
  unfold lstOf at h
  split at h
  · cases h
    obtain ⟨a, vs, e, h1, _, d⟩ := dat_list (H := H) (L := Live B μ S) r
    exact ⟨a, vs, e, d, h1⟩
  · rename_i n
    split at h
    · rename_i ys hs
      cases h
      obtain ⟨a, h1, h2⟩ := r
      obtain ⟨vs, h3, d⟩ := R.obj n a _ h1 hs
      exact ⟨a, vs, h2, d, h3⟩
    · cases h
  · cases h
theorem lst_ints {w : W} {v : V} {B : Addr → Prop} {μ : List Addr} {S : List O} {H : Hp} {ns : List Int} (R : Rel G.T B μ S H) (r : WR H μ (Live B μ S) w v) (h : (lstOf w S).bind intsOf = some ns) : ∃ a, v = .ref a ∧ H a = some (.lst (ns.map V.int)) := by
  cases q : lstOf w S with
  | none => rw [q] at h; cases h
  | some xs =>
    rw [q] at h
    obtain ⟨a, vs, e, d, e2⟩ := lst_of R r q
    rw [dat_ints d h] at e2
    exact ⟨a, e, e2⟩
theorem CalOk.max_ (hc : X.calm = true) : CalOk G X (.builtin "max") (one1 (prim1 .max_)) := CalOk.mk1 (cr_max hc) fun w v B μ S H E Q R r o => by
  unfold prim1 at o
  dsimp only at o
  split at o
  · rename_i x rs h
    obtain ⟨a, rfl, h2⟩ := lst_ints R r h
    refine ⟨a, x :: rs, rfl, .inl (.inl h2), by simp, fun m hm hle => oke_here o R ?_⟩
    obtain ⟨h3, h4⟩ := maxI_is rs x
    have e : m = maxI x rs := Int.le_antisymm (h4 m hm) (hle _ h3)
    simp only [Dat]
    rw [e]
  · exact o.elim
theorem CalOk.min_ (hc : X.calm = true) : CalOk G X (.builtin "min") (one1 (prim1 .min_)) := CalOk.mk1 (cr_min hc) fun w v B μ S H E Q R r o => by
  unfold prim1 at o
  dsimp only at o
  split at o
  · rename_i x rs h
    obtain ⟨a, rfl, h2⟩ := lst_ints R r h
    refine ⟨a, x :: rs, rfl, .inl (.inl h2), by simp, fun m hm hle => oke_here o R ?_⟩
    obtain ⟨h3, h4⟩ := minI_is rs x
    have e : m = minI x rs := Int.le_antisymm (hle _ h3) (h4 m hm)
    simp only [Dat]
    rw [e]
  · exact o.elim
theorem CalOk.sum_ (hc : X.calm = true) : CalOk G X (.builtin "sum") (one1 (prim1 .sum_)) := CalOk.mk1 (cr_sum hc) fun w v B μ S H E Q R r o => by
  unfold prim1 at o
  dsimp only at o
  split at o
  · rename_i rs h
    obtain ⟨a, rfl, h2⟩ := lst_ints R r h
    exact ⟨a, rs, rfl, .inl (.inl h2), oke_here o R (by simp only [Dat])⟩
  · exact o.elim
theorem two_ints {w w2 : W} {i j : Int} (h : twoInts w w2 = some (i, j)) : w = .d (.int i) ∧ w2 = .d (.int j) := by
  unfold twoInts at h
  split at h
  · cases h; exact ⟨rfl, rfl⟩
  · cases h
theorem CalOk.ints2 {q : P2} {f : Value} {g : Int → Int → Int} {r : List V → Hp → VK → Prop} (h : CallR X f r) (hr : ∀ i j H Q, Q (V.int (g i j)) H → r [.int i, .int j] H Q) (hg : ∀ i j, p2I q i j = some (g i j)) : CalOk G X f (one2 (prim2 q)) := CalOk.mk2 h fun w w2 v v2 B μ S H E Q R r r2 o => by
  unfold prim2 at o
  split at o
  · rename_i i j hw
    obtain ⟨rfl, rfl⟩ := two_ints hw
    rw [hg] at o
    have e1 := wr_int r
    have e2 := wr_int r2
    subst e1
    subst e2
    exact hr i j H Q (oke_here o R (by simp only [Dat]))
  · exact o.elim
theorem CalOk.max2 (hc : X.calm = true) : CalOk G X (.builtin "max") (one2 (prim2 .max2)) := .ints2 (call_max2 hc) (fun i j _ _ q => ⟨i, j, rfl, q⟩) fun _ _ => rfl
theorem CalOk.min2 (hc : X.calm = true) : CalOk G X (.builtin "min") (one2 (prim2 .min2)) := .ints2 (call_min2 hc) (fun i j _ _ q => ⟨i, j, rfl, q⟩) fun _ _ => rfl
theorem CalOk.gcd : CalOk G X (.builtin "math.gcd") (one2 (prim2 .gcd)) := .ints2 cr_gcd (fun i j _ _ q => ⟨i, j, rfl, q⟩) fun _ _ => rfl

def tyN : Ty → String
  | .int => "int"
  | .bool => "bool"
  | .tup => "tuple"
  | .str => "str"
  | .lst => "list"
theorem DE.isa {t : Ty} {T : Str} {p2 : Pos} (ha : DE G X Wx F L A a ea) (hg : Gl X "isinstance") (hm : X.mg "isinstance" = Option.none) (hgT : Gl X T) (hmT : X.mg T = Option.none) (hv : bootBuiltins T = some (.type (tyN t))) (hnT : T ≠ "__name__") (hdT : (T == ("__debug__" : Str)) = false)
    (he : starEach [ea, .Name T p2] X.env = (false, eval ea X.env) :: starEach [.Name T p2] X.env) (he2 : starEach [.Name T p2] X.env = (false, eval (.Name T p2) X.env) :: starEach [] X.env) (hpl : (backTo pos (starEach [.Name T p2] X.env)).any (·.1) = false) :
    DE G X Wx F L A (.isa t a) (.Call (.Name "isinstance" p) [ea, .Name T p2] [] pos) := by
  obtain ⟨ta, h1, q1⟩ := ha
  have hT : PE X (.Name T p2) (tC (.ty (tyN t))) := pe_bltn hgT hmT hv rfl hnT hdT
  refine ⟨_, pe_callB call_isi hg hm (by decide +kernel) (pa_cons h1 (pa_cons hT pa_nil he2) he) (by decide) (by decide) he hpl, fun ρ σ B μ S H Q er rl z => ?_⟩
  rw [ev] at z
  refine q1 ρ σ B μ S H _ er rl (OKE.bind z fun w S1 v μ1 H1 e1 r1 w1 o1 => ?_)
  unfold isaW at o1
  split at o1
  · rename_i d
    have fin : ∀ (n : String) (k : Bool), TyOf X.K H1 v (.type n) → kitB n (tyN t) = some k → Q (.bl k) H1 → tCB (rIsi X.K) (tCons (fun _ H Q => Q v H) (tCons (tC (.ty (tyN t))) tNil)) σ H1 Q := fun n k hy hk q =>
      ⟨v, .ty (tyN t), .type n, .type (tyN t), k, rfl, .ty _, .base hy, kit_ty hk, q⟩
    have q : Q (.bl (isaD t d)) H1 := oke_here o1 r1 (by simp only [Dat])
    show ∃ x c ty u b, [v, V.ty (tyN t)] = [x, c] ∧ ClsV c u ∧ TyX X.K H1 x ty ∧ PySem.W.kitOne X.K ty u = some b ∧ Q (.bl b) H1
    cases d with
    | none =>
      have e : v = .non := by simpa only [WR, Dat] using w1
      subst e
      cases t <;> (refine fin "NoneType" _ .non ?_ q; first | (show kitB "NoneType" _ = some true; decide +kernel) | (show kitB "NoneType" _ = some false; decide +kernel))
    | bool b =>
      have e : v = .bl b := by simpa only [WR, Dat] using w1
      subst e
      cases t <;> (refine fin "bool" _ (.bl b) ?_ q; first | (show kitB "bool" _ = some true; decide +kernel) | (show kitB "bool" _ = some false; decide +kernel))
    | int i =>
      have e : v = .int i := by simpa only [WR, Dat] using w1
      subst e
      cases t <;> (refine fin "int" _ (.int i) ?_ q; first | (show kitB "int" _ = some true; decide +kernel) | (show kitB "int" _ = some false; decide +kernel))
    | str s =>
      have e : v = .str s := by simpa only [WR, Dat] using w1
      subst e
      cases t <;> (refine fin "str" _ (.str s) ?_ q; first | (show kitB "str" _ = some true; decide +kernel) | (show kitB "str" _ = some false; decide +kernel))
    | list xs =>
      obtain ⟨a, vs, e, h1, _⟩ := dat_list (H := H1) (L := Live B μ1 S1) w1
      subst e
      cases t <;> (refine fin "list" _ (.lst h1) ?_ q; first | (show kitB "list" _ = some true; decide +kernel) | (show kitB "list" _ = some false; decide +kernel))
    | tuple xs =>
      obtain ⟨a, vs, e, h1, _⟩ := dat_tup (H := H1) (L := Live B μ1 S1) w1
      subst e
      cases t <;> (refine fin "tuple" _ (.tup h1) ?_ q; first | (show kitB "tuple" _ = some true; decide +kernel) | (show kitB "tuple" _ = some false; decide +kernel))
    | dict kvs =>
      have z : Dat H1 (Live B μ1 S1) (.dict kvs) v := w1
      simp only [Dat] at z
  · exact o1.elim

theorem at_dat {H : Hp} {L : Addr → Prop} {xs : List PyData} {vs : List V} {i : Int} {z : PyData} (d : DatL H L xs vs) (h : atD xs i = some z) : ∃ v, atI vs i = some v ∧ Dat H L z v := by
  unfold atD atI at h
  unfold atI
  rw [← d.length]
  cases k : ixN xs.length i with
  | none => rw [k] at h; cases h
  | some j =>
    rw [k] at h
    exact d.get h
theorem DE.idx (hK : X.K = kI.K) (ha : DE G X Wx F L A a ea) (hb : DE G X Wx F L A b eb) (hp : PlainIx eb) : DE G X Wx F L A (.idx a b) (.Subscript ea eb pos) := by
  refine DE.op2 (t := tOp _) ha hb (fun ta tb h1 h2 => pe_ix (IxR.or ix_list ix_tup) h1 h2 hp) (k := index) (fun ρ S => by rw [ev]) (fun _ _ _ _ _ h => h) fun x y v u B μ S H E Q R hx hy o => ?_
  unfold index at o
  split at o
  · rename_i xs i hs
    have ei := wr_int hy
    unfold okO at o
    split at o
    · rename_i z hz
      obtain ⟨q, vs, e, d, h⟩ := seq_of (K := X.K) hK R hx hs
      obtain ⟨w, h1, h2⟩ := at_dat d hz
      rcases h with ⟨h, _⟩ | ⟨h, _⟩
      · exact .inl ⟨q, vs, i, w, e, ei, h, h1, oke_here o R h2⟩
      · exact .inr ⟨q, vs, i, w, e, ei, h, h1, oke_here o R h2⟩
    · exact o.elim
  · exact o.elim
theorem kv_get {κ : Type} [DecidableEq κ] {H : Hp} {μ : List Addr} {L : Addr → Prop} : ∀ {kvs : List (κ × W)} {kv : List (κ × V)} {k : κ} {w : W}, KvR H μ L kvs kv → getK kvs k = some w → ∃ v, valV kv k = some v ∧ WR H μ L w v
  | [], kv, k, w, h, e => by cases e
  | p :: r, kv, k, w, h, e => by
    obtain ⟨v, t, rfl, h1, h2⟩ := h
    by_cases hk : p.1 = k
    · have e2 : p.2 = w := by simpa [getK, List.find?_cons, hk] using e
      exact ⟨v, valV_pos hk, by rw [← e2]; exact h1⟩
    · have e2 : getK r k = some w := by simpa [getK, List.find?_cons, hk] using e
      obtain ⟨v', h3, h4⟩ := kv_get h2 e2
      exact ⟨v', by rw [valV_neg hk]; exact h3, h4⟩
theorem key_v {p : PyData} {k : L2.Key} {H : Hp} {L : Addr → Prop} {v : V} (h : toKey p = some k) (d : Dat H L p v) : v = kV k := by
  cases p <;> cases h <;> (simp only [Dat] at d; exact d)
theorem DE.dget (hu : X.A.units + 1 < cLine) (ha : DE G X Wx F L A a ea) (hb : DE G X Wx F L A b eb) (hp : NoSl eb) : DE G X Wx F L A (.dget a b) (.Subscript ea eb pos) := by
  refine DE.op2 (t := tDGet) (r := fun x y H2 Q => ∃ a v, x = V.ref a ∧ DGet H2 a y (some v) ∧ Q v H2) ha hb (fun ta tb h1 h2 => pe_dget hu h1 h2 hp) (k := dgetW) (fun ρ S => by rw [ev]) (fun _ _ _ _ _ h => h) fun x y v u B μ S H E Q R hx hy o => ?_
  unfold dgetW at o
  split at o
  · rename_i n k
    split at o
    · rename_i kvs hs
      split at o
      · rename_i k' hk
        split at o
        · rename_i w hw
          obtain ⟨q, h1, h2⟩ := hx
          obtain ⟨kv, h3, h4⟩ := R.obj n q _ h1 hs
          obtain ⟨z, h5, h6⟩ := kv_get h4 hw
          refine ⟨q, z, h2, ?_, o z μ H .refl R h6⟩
          rw [key_v hk hy, ← h5]
          exact DGet.k h3
        · exact o.elim
      · exact o.elim
    · exact o.elim
  · exact o.elim
end
end Ci

end
section
set_option linter.all false
set_option autoImplicit false
set_option maxHeartbeats 1000000
namespace Ci
open PySem L2
variable [kI : HasK]

section
variable {G : Glob} {X : Cx} {Wx : WX} {F : FnT} {L : Nat → ActT → List O → R W} {A : ActT} {a b c d : C} {ea eb ec e : Expr} {p pos : Pos} {x : Str}

/-- a part of a slice -/
def DO (G : Glob) (X : Cx) (Wx : WX) (F : FnT) (L : Nat → ActT → List O → R W) (A : ActT) (c : Option C) (e : Option Expr) : Prop := ∃ t : TO, PO X e t ∧ ∀ (ρ : Ev) (σ : L2.St) (B : Addr → Prop) (μ : List Addr) (S : List O) (H : Hp) (Q : VK) (k : Option Int → List O → R W) (P : Option Int → Hp → Prop), EnvR H μ (Live B μ S) ρ σ → Rel G.T B μ S H →
  OKE G B ((evo F L A c ρ S).bind k) μ S H (fun cls d H' => Wx cls d σ H') Q →
  (∀ (i : Option Int) S1 μ1 H1, Evo μ S H μ1 S1 H1 → Rel G.T B μ1 S1 H1 → OKE G B (k i S1) μ1 S1 H1 (fun cls d H' => Wx cls d σ H') Q → P i H1) → t σ H P
theorem DO.none : DO G X Wx F L A Option.none Option.none := ⟨_, po_none, fun ρ σ B μ S H Q k P er rl o hk => by
  rw [evo] at o
  exact hk Option.none S μ H .refl rl o⟩
theorem DO.some (h : DE G X Wx F L A c e) : DO G X Wx F L A (Option.some c) (Option.some e) := by
  obtain ⟨t, ht, q⟩ := h
  refine ⟨_, po_some ht, fun ρ σ B μ S H Q k P er rl o hk => ?_⟩
  rw [evo] at o
  have o2 : OKE G B ((ev F L A c ρ S).bind fun w S1 => (toInt w S1).bind k) μ S H (fun cls d H' => Wx cls d σ H') Q := by
    cases h : ev F L A c ρ S with
    | ok w S1 => rw [h] at o; exact o
    | err c f S1 => rw [h] at o; exact o
    | stuck => rw [h] at o; exact o
  refine q ρ σ B μ S H _ er rl (OKE.bind o2 fun w S1 v μ1 H1 e1 r1 w1 o1 => ?_)
  unfold toInt at o1
  split at o1
  · rename_i i
    exact ⟨i, wr_int w1, hk (Option.some i) S1 μ1 H1 e1 r1 o1⟩
  · exact o1.elim
theorem cut_dat {H : Hp} {L : Addr → Prop} {xs : List PyData} {vs : List V} (d : DatL H L xs vs) (lo hi : Option Int) : DatL H L (cutD xs lo hi) (cutV vs lo hi) := by
  unfold cutD cutV
  rw [d.length]
  exact DatL.take _ (DatL.drop _ d)
theorem cut_whole {xs : List PyData} {lo hi : Option Int} (h : HT.sIx xs.length 0 lo = 0 ∧ HT.sIx xs.length xs.length hi = xs.length) : cutD xs lo hi = xs := by
  unfold cutD
  rw [h.1, h.2]
  simp
theorem DE.slc (hK : X.K = kI.K) {lo hi : Option C} {elo ehi : Option Expr} {p2 : Pos} (ha : DE G X Wx F L A a ea) (hl : DO G X Wx F L A lo elo) (hh : DO G X Wx F L A hi ehi) : DE G X Wx F L A (.slc a lo hi) (.Subscript ea (.Slice elo ehi Option.none p2) pos) := by
  obtain ⟨t, ht, q⟩ := ha
  obtain ⟨tl, htl, ql⟩ := hl
  obtain ⟨th, hth, qh⟩ := hh
  refine ⟨_, pe_slice (SlR.or sl_list sl_tupA) ht htl hth, fun ρ σ B μ S H Q er rl z => ?_⟩
  rw [ev] at z
  refine q ρ σ B μ S H _ er rl (OKE.bind z fun w S1 v μ1 H1 e1 r1 w1 o1 => ?_)
  refine ql ρ σ B μ1 S1 H1 Q _ _ (er.evo rl e1) r1 o1 fun l S2 μ2 H2 e2 r2 o2 => ?_
  refine qh ρ σ B μ2 S2 H2 Q _ _ ((er.evo rl e1).evo r1 e2) r2 o2 fun h S3 μ3 H3 e3 r3 o3 => ?_
  have w3 := (w1.evo r1 e2).evo r2 e3
  unfold sliceW at o3
  split at o3
  · rename_i xs
    obtain ⟨a, vs, e, h1, d⟩ := dat_tup (H := H3) (L := Live B μ3 S3) w3
    refine .inr ⟨a, vs, e, .inl (.inl h1), fun z => ?_, fun _ p hp => oke_ok o3 r3 (same_upd hp) (tup_new r3 hp (cut_dat d l h))⟩
    rw [← d.length] at z
    rw [cut_whole z] at o3
    refine oke_here o3 r3 ?_
    rw [← e]
    exact w3
  · rename_i hne
    split at o3
    · rename_i xs hs
      obtain ⟨a, vs, e, d, h1⟩ := seq_of (K := X.K) hK r3 w3 hs
      rcases h1 with ⟨h1, _⟩ | ⟨_, h1⟩
      · exact .inl ⟨a, vs, e, h1, fun p hp => oke_ok o3 r3 (same_upd hp) (lst_new r3 hp (cut_dat d l h))⟩
      · exact absurd h1 (hne xs)
    · exact o3.elim

/-- a list or a tuple, walked -/
def iSeq (K : PySem.W.Frag) (tl : TE) : TI := fun σ H R => tl σ H fun x H1 => ∃ a, x = .ref a ∧ ((∃ xs, SqL K H1 a xs) ∧ R (Itl K a) H1 ∨ (∃ xs, SqT K H1 a xs) ∧ R (Itt K a) H1)
theorem pi_seq {tg l : Expr} {tl : TE} (hl : PE X l tl) : PI X tg l (iSeq X.K tl) := by
  refine ⟨fun pins s0 σ H0 R I0 h0 => ?_⟩
  refine thn (hl.run pins s0 σ H0 _ I0 h0) fun v s1 ⟨x, H1, J, rx, b, eb, hb⟩ => ?_
  subst eb
  have ev : v = Value.ref b := rx
  subst ev
  have new : ∀ (o : Obj) b' u, s1.heap.get? b' = some u → (s1.heap.push o).get? b' = some u := fun o b' u q => Heap.get?_push_of_some _ q
  have own : ∀ c ∈ [s1.heap.objs.size], FpOk X pins H1 c := fun c hc => by
    rw [List.mem_singleton.mp hc]
    exact J.fpOk (Nat.le_refl _) (J.hok.fresh (Nat.le_refl _))
  rcases hb with ⟨⟨xs, hs⟩, hR⟩ | ⟨⟨xs, hs⟩, hR⟩
  · obtain ⟨us, _, pl, _⟩ := J.list hs
    exact wpAny_pyIter_list pl.isList ⟨s1.heap.objs.size, [s1.heap.objs.size], _, _, H1, rfl, J.kept (t' := s1.toks) (new _), turn_list b _, ⟨_, Heap.get?_push_size _ rfl, rfl, rfl⟩, own, hR⟩
  · obtain ⟨us, _, pl, _⟩ := J.tuple hs
    exact wpAny_pyIter_tuple (show s1.heap.IsTuple b us.toArray from pl) ⟨s1.heap.objs.size, [s1.heap.objs.size], _, _, H1, rfl, J.kept (t' := s1.toks) (new _), turn_tuple b _, ⟨_, Heap.get?_push_size _ rfl, rfl, rfl⟩, own, hR⟩
end
end Ci

end
section
set_option linter.all false
set_option autoImplicit false
set_option maxHeartbeats 1000000
namespace Ci
open PySem L2
variable [kI : HasK]

/-- the turns of a walk meet the items, however the rest goes on -/
def WalkOK (B : Addr → Prop) (J : It) (xs : List PyData) (μ1 : List Addr) (S1 : List O) (H1 : Hp) : Prop := ∀ (μ : List Addr) (S : List O) (H : Hp), Evo μ1 S1 H1 μ S H →
  (∀ (i : Nat) (x : PyData), xs[i]? = some x → J.go i H ∧ ∀ v H', J.yld i H v H' → H' = H ∧ Dat H (Live B μ S) x v) ∧ J.stop xs.length H

section
variable {G : Glob} {X : Cx} {Wx : WX} {F : FnT} {L : Nat → ActT → List O → R W} {A : ActT} {a b c d : C} {ea eb ec e tg : Expr} {p pos : Pos} {x : Str}

def OKI (G : Glob) (Wx : WX) (B : Addr → Prop) (σ : L2.St) (r : R W) (μ : List Addr) (S : List O) (H : Hp) (R : It → Hp → Prop) : Prop := match r with
  | .ok w S' => ∃ xs, walkOf w = some xs ∧ ∀ (J : It) (μ' : List Addr) (H' : Hp), Evo μ S H μ' S' H' → Rel G.T B μ' S' H' → (∀ B' : Addr → Prop, (∀ a, B' a → B a ∨ H' a = none) → WalkOK B' J xs μ' S' H') → R J H'
  | .err c f S' => ∀ cls d μ' H', Evo μ S H μ' S' H' → Rel G.T B μ' S' H' → ErrR G H' (Live B μ' S') c f cls d → Wx cls d σ H'
  | .stuck => False
/-- a walked thing -/
def DI (G : Glob) (X : Cx) (Wx : WX) (F : FnT) (L : Nat → ActT → List O → R W) (A : ActT) (c : C) (tg e : Expr) : Prop := ∃ wi : TI, PI X tg e wi ∧ ∀ (ρ : Ev) (σ : L2.St) (B : Addr → Prop) (μ : List Addr) (S : List O) (H : Hp) (R : It → Hp → Prop), EnvR H μ (Live B μ S) ρ σ → Rel G.T B μ S H →
  OKI G Wx B σ (ev F L A c ρ S) μ S H R → wi σ H R

mutual
/-- more that is being made: none of it is a datum -/
theorem Dat.more {H : Hp} {B B' : Addr → Prop} {μ : List Addr} {S : List O} (hb : ∀ a, B' a → B a ∨ H a = none) : ∀ (p : PyData) (v : V), Dat H (Live B μ S) p v → Dat H (Live B' μ S) p v
  | .none, v, h => by simpa only [Dat] using h
  | .bool b, v, h => by simpa only [Dat] using h
  | .int i, v, h => by simpa only [Dat] using h
  | .str s, v, h => by simpa only [Dat] using h
  | .list xs, v, h => by
    simp only [Dat] at h ⊢
    obtain ⟨a, vs, e, r, nl, d⟩ := h
    refine ⟨a, vs, e, r, fun l => ?_, DatL.more hb xs vs d⟩
    rcases l with l | l
    · rcases hb a l with z | z
      · exact nl (.inl z)
      · rw [z] at r; cases r
    · exact nl (.inr l)
  | .tuple xs, v, h => by
    simp only [Dat] at h ⊢
    obtain ⟨a, vs, e, r, d⟩ := h
    exact ⟨a, vs, e, r, DatL.more hb xs vs d⟩
  | .dict _, v, h => by simp only [Dat] at h
theorem DatL.more {H : Hp} {B B' : Addr → Prop} {μ : List Addr} {S : List O} (hb : ∀ a, B' a → B a ∨ H a = none) : ∀ (xs : List PyData) (vs : List V), DatL H (Live B μ S) xs vs → DatL H (Live B' μ S) xs vs
  | [], vs, h => by simpa only [DatL] using h
  | x :: xs, vs, h => by
    simp only [DatL] at h ⊢
    obtain ⟨v, r, e, h1, h2⟩ := h
    exact ⟨v, r, e, Dat.more hb x v h1, DatL.more hb xs r h2⟩
end
theorem DI.seq (h : DE G X Wx F L A c e) : DI G X Wx F L A c tg e := by
  obtain ⟨t, ht, q⟩ := h
  refine ⟨_, pi_seq ht, fun ρ σ B μ S H R er rl o => ?_⟩
  refine q ρ σ B μ S H _ er rl ?_
  cases hw : ev F L A c ρ S with
  | stuck => rw [hw] at o; exact o
  | err c f S' => rw [hw] at o; exact o
  | ok w S1 =>
    rw [hw] at o
    obtain ⟨xs, hx, o⟩ := o
    intro v μ1 H1 e1 r1 w1
    cases w with
    | ref n => cases hx
    | scr n => cases hx
    | d p =>
      cases p with
      | list ys =>
        have hx : some ys = some xs := hx
        have hx := Option.some.inj hx
        subst hx
        obtain ⟨a, vs, e, h1, nl, dd⟩ := dat_list (H := H1) (L := Live B μ1 S1) w1
        refine ⟨a, e, .inl ⟨⟨vs, .inl (.inl h1)⟩, o _ μ1 H1 e1 r1 fun B' hB μ2 S2 H2 e2 => ?_⟩⟩
        have h2 : H2 a = some (.lst vs) := e2.keep a _ h1 (fun l => nl (.inr l)) (fun ps z => by cases z)
        have s2 : SqL X.K H2 a vs := .inl (.inl h2)
        have d2 := DatL.evo (B := B') r1 e2 ys vs (DatL.more hB ys vs dd)
        refine ⟨fun i x hi => ?_, ⟨vs, s2, by rw [dd.length]; exact Nat.le_refl _⟩⟩
        obtain ⟨v, h3, h4⟩ := d2.get hi
        refine ⟨⟨vs, v, s2, h3⟩, fun v' H' hy => ⟨hy.1, ?_⟩⟩
        have z := hy.2 vs s2
        rw [h3] at z
        cases z
        exact h4
      | tuple ys =>
        have hx : some ys = some xs := hx
        have hx := Option.some.inj hx
        subst hx
        obtain ⟨a, vs, e, h1, dd⟩ := dat_tup (H := H1) (L := Live B μ1 S1) w1
        refine ⟨a, e, .inr ⟨⟨vs, .inl (.inl h1)⟩, o _ μ1 H1 e1 r1 fun B' hB μ2 S2 H2 e2 => ?_⟩⟩
        have h2 : H2 a = some (.tup vs) := e2.keep a _ h1 (r1.tupNot h1) (fun ps z => by cases z)
        have s2 : SqT X.K H2 a vs := .inl (.inl h2)
        have d2 := DatL.evo (B := B') r1 e2 ys vs (DatL.more hB ys vs dd)
        refine ⟨fun i x hi => ?_, ⟨vs, s2, by rw [dd.length]; exact Nat.le_refl _⟩⟩
        obtain ⟨v, h3, h4⟩ := d2.get hi
        refine ⟨⟨vs, v, s2, h3⟩, fun v' H' hy => ⟨hy.1, ?_⟩⟩
        have z := hy.2 vs s2
        rw [h3] at z
        cases z
        exact h4
      | _ => cases hx

theorem range_walk {B : Addr → Prop} {lo : Int} {n : Nat} {μ1 : List Addr} {S1 : List O} {H1 : Hp} : WalkOK B (Itr lo n) ((List.range n).map fun (i : Nat) => PyData.int (lo + (i : Int))) μ1 S1 H1 := fun μ S H e => by
  refine ⟨fun i x hi => ?_, by show n ≤ _; rw [List.length_map, List.length_range]; exact Nat.le_refl _⟩
  rw [List.getElem?_map] at hi
  cases k : (List.range n)[i]? with
  | none => rw [k] at hi; cases hi
  | some j =>
    rw [k] at hi
    have hj := (List.getElem?_eq_some_iff.mp k)
    obtain ⟨hl, e1⟩ := hj
    rw [List.getElem_range] at e1
    subst e1
    cases hi
    rw [List.length_range] at hl
    refine ⟨hl, fun v H' hy => ?_⟩
    obtain ⟨e1, e2⟩ := hy
    exact ⟨e1, by simp only [Dat]; exact e2⟩
theorem range1_ok {B : Addr → Prop} {σ : L2.St} {w : W} {S1 : List O} {μ : List Addr} {S : List O} {H : Hp} {R : It → Hp → Prop} (h : OKI G Wx B σ (range1W w S1) μ S H R) : ∃ i, w = .d (.int i) ∧ -1000000 < i ∧ i < 1000000 ∧ range1W w S1 = ok (.list (rangeD 0 i)) S1 := by
  unfold range1W at h ⊢
  split at h
  · rename_i i
    split at h
    · rename_i hi
      exact ⟨i, rfl, hi.1, hi.2, if_pos hi⟩
    · exact h.elim
  · exact h.elim
theorem range2_ok {B : Addr → Prop} {σ : L2.St} {w w2 : W} {S1 : List O} {μ : List Addr} {S : List O} {H : Hp} {R : It → Hp → Prop} (h : OKI G Wx B σ (range2W w w2 S1) μ S H R) :
    ∃ i j, w = .d (.int i) ∧ w2 = .d (.int j) ∧ -1000000 < i ∧ i < 1000000 ∧ -1000000 < j ∧ j < 1000000 ∧ range2W w w2 S1 = ok (.list (rangeD i j)) S1 := by
  unfold range2W at h ⊢
  split at h
  · rename_i i j
    split at h
    · rename_i hi
      exact ⟨i, j, rfl, rfl, hi.1, hi.2.1, hi.2.2.1, hi.2.2.2, if_pos hi⟩
    · exact h.elim
  · exact h.elim
theorem DI.range1 (ha : DA G X Wx F L A [a] [ea]) (hg : Gl X "range") (hm : X.mg "range" = none) (he : starEach [ea] X.env = [(false, eval ea X.env)]) : DI G X Wx F L A (.range1 a) tg (.Call (.Name "range" p) [ea] [] pos) := by
  obtain ⟨t, ht, q⟩ := ha
  refine ⟨_, pi_range1 hg hm ht he, fun ρ σ B μ S H R er rl o => ?_⟩
  rw [ev] at o
  refine q ρ σ B μ S H _ er rl ?_
  simp only [evs]
  cases hw : ev F L A a ρ S with
  | stuck => rw [hw] at o; exact o
  | err c f S' => rw [hw] at o; exact o
  | ok w S1 =>
    rw [hw] at o
    have o : OKI G Wx B σ (range1W w S1) μ S H R := o
    intro vs μ1 H1 e1 r1 w1
    obtain ⟨i, rfl, b1, b2, e⟩ := range1_ok o
    rw [e] at o
    obtain ⟨v, t2, rfl, h1, h2⟩ := w1
    have h2 : t2 = [] := h2
    subst h2
    have e := wr_int h1
    subst e
    obtain ⟨xs, hx, o⟩ := o
    have hx : some (rangeD 0 i) = some xs := hx
    have hx := Option.some.inj hx
    subst hx
    refine ⟨i, rfl, by omega, by omega, o _ μ1 H1 e1 r1 ?_⟩
    have e : rangeD 0 i = (List.range i.toNat).map fun (k : Nat) => PyData.int (0 + (k : Int)) := by unfold rangeD; rw [Int.sub_zero]
    rw [e]
    exact fun _ _ => range_walk
theorem DI.range2 (ha : DA G X Wx F L A [a, b] [ea, eb]) (hg : Gl X "range") (hm : X.mg "range" = none) (he : starEach [ea, eb] X.env = [(false, eval ea X.env), (false, eval eb X.env)]) (he2 : starEach [eb] X.env = [(false, eval eb X.env)]) :
    DI G X Wx F L A (.range2 a b) tg (.Call (.Name "range" p) [ea, eb] [] pos) := by
  obtain ⟨t, ht, q⟩ := ha
  refine ⟨_, pi_range2 hg hm ht he he2, fun ρ σ B μ S H R er rl o => ?_⟩
  rw [ev] at o
  refine q ρ σ B μ S H _ er rl ?_
  simp only [evs]
  cases hw : ev F L A a ρ S with
  | stuck => rw [hw] at o; exact o
  | err c f S' => rw [hw] at o; exact o
  | ok w S1 =>
    rw [hw] at o
    simp only [Ci.R.bind] at o ⊢
    cases hw2 : ev F L A b ρ S1 with
    | stuck => rw [hw2] at o; exact o
    | err c f S' => rw [hw2] at o; exact o
    | ok w2 S2 =>
      rw [hw2] at o
      have o : OKI G Wx B σ (range2W w w2 S2) μ S H R := o
      intro vs μ1 H1 e1 r1 w1
      obtain ⟨i, j, rfl, rfl, b1, b2, b3, b4, e⟩ := range2_ok o
      rw [e] at o
      obtain ⟨v, t2, rfl, h1, v2, t3, rfl, h2, h3⟩ := w1
      have h3 : t3 = [] := h3
      subst h3
      have e := wr_int h1
      subst e
      have e := wr_int h2
      subst e
      obtain ⟨xs, hx, o⟩ := o
      have hx : some (rangeD i j) = some xs := hx
      have hx := Option.some.inj hx
      subst hx
      exact ⟨i, j, rfl, ⟨by omega, by omega, by omega, by omega⟩, o _ μ1 H1 e1 r1 fun _ _ => range_walk⟩

def tgIn : Tg → List Nat → Prop
  | .one i, own => i ∈ own
  | .tup is, own => ∀ i ∈ is, i ∈ own
/-- a target of a walk or an assignment -/
def DG (X : Cx) (t : Tg) (e : Expr) : Prop := ∃ g : TG, PG X e g ∧ ∀ (x : PyData) (v : V) (ρ ρ1 : Ev) (σ : L2.St) (T : List (Addr × Str)) (B : Addr → Prop) (μ : List Addr) (S : List O) (H : Hp) (Q : L2.St → Hp → Prop), aim t x ρ = some ρ1 → EnvR H μ (Live B μ S) ρ σ → Rel T B μ S H → Dat H (Live B μ S) x v →
  (∀ σ1, EnvR H μ (Live B μ S) ρ1 σ1 → (∀ own, tgIn t own → L2.wipe σ1 own = L2.wipe σ own) → Q σ1 H) → g v σ H Q
theorem wipe_set {σ : L2.St} {i : Nat} {v : Option V} : ∀ {own : List Nat}, i ∈ own → L2.wipe (σ.set i v) own = L2.wipe σ own
  | n :: own, h => by
    unfold L2.wipe
    by_cases hi : i ∈ own
    · rw [wipe_set hi]
    · have e : i = n := by
        rcases List.mem_cons.mp h with e | e
        · exact e
        · exact absurd e hi
      subst e
      have q : ∀ (own : List Nat), i ∉ own → L2.wipe (σ.set i v) own = (L2.wipe σ own).set i v := by
        intro own
        induction own with
        | nil => intro _; rfl
        | cons m r ih =>
          intro hm
          unfold L2.wipe
          rw [ih (fun z => hm (List.mem_cons_of_mem _ z)), List.set_comm]
          intro z
          exact hm (by rw [z]; exact List.mem_cons_self)
      rw [q own hi, List.set_set]
theorem DG.one {i : Nat} {y : Str} (nd : X.N.Nodup) (hi : X.N[i]? = some y) (hl : L2.Loc X.env.scope y) (hf : X.fn y = true ∨ X.env.scope.names.lookup y = some .local) : DG X (.one i) (.Name y pos) :=
  ⟨_, pg_name nd hi hl hf, fun x v ρ ρ1 σ T B μ S H Q ha er rl d k => by
    have ha : some (putAt i (.d x) ρ) = some ρ1 := ha
    cases ha
    exact k _ (er.put i (w := .d x) d) fun own h => wipe_set h⟩
def DGs (X : Cx) (is : List Nat) (es : List Expr) : Prop := ∃ g : TGs, PGs X es g ∧ ∀ (xs : List PyData) (vs : List V) (ρ ρ1 : Ev) (σ : L2.St) (T : List (Addr × Str)) (B : Addr → Prop) (μ : List Addr) (S : List O) (H : Hp) (Q : L2.St → Hp → Prop), putMany is xs ρ = some ρ1 → EnvR H μ (Live B μ S) ρ σ → Rel T B μ S H → DatL H (Live B μ S) xs vs →
  (∀ σ1, EnvR H μ (Live B μ S) ρ1 σ1 → (∀ own, (∀ i ∈ is, i ∈ own) → L2.wipe σ1 own = L2.wipe σ own) → Q σ1 H) → g vs σ H Q
theorem DGs.nil : DGs X [] [] := ⟨_, pgs_nil, fun xs vs ρ ρ1 σ T B μ S H Q ha er rl d k => by
  cases xs with
  | nil =>
    have ha : some ρ = some ρ1 := ha
    cases ha
    simp only [DatL] at d
    subst d
    exact ⟨rfl, k σ er fun _ _ => rfl⟩
  | cons x xs => cases ha⟩
theorem DGs.cons {i : Nat} {is : List Nat} {y : Str} {es : List Expr} (nd : X.N.Nodup) (hi : X.N[i]? = some y) (hl : L2.Loc X.env.scope y) (hf : X.fn y = true ∨ X.env.scope.names.lookup y = some .local) (h : DGs X is es)
    (ha : (assignEach (.Name y pos :: es) X.env).map (·.2) = assign (.Name y pos) X.env :: (assignEach es X.env).map (·.2)) : DGs X (i :: is) (.Name y pos :: es) := by
  obtain ⟨g, hg, q⟩ := h
  refine ⟨_, pgs_cons (pg_name nd hi hl hf) hg ha, fun xs vs ρ ρ1 σ T B μ S H Q hp er rl d k => ?_⟩
  cases xs with
  | nil => cases hp
  | cons x xs =>
    have hp : putMany is xs (putAt i (.d x) ρ) = some ρ1 := hp
    simp only [DatL] at d
    obtain ⟨v, r, e, h1, h2⟩ := d
    refine ⟨v, r, e, ?_⟩
    refine q xs r _ ρ1 _ T B μ S H Q hp (er.put i (w := .d x) h1) rl h2 fun σ1 er1 hw => k σ1 er1 fun own ho => ?_
    rw [hw own fun j hj => ho j (List.mem_cons_of_mem _ hj)]
    exact wipe_set (ho i List.mem_cons_self)
theorem putMany_len : ∀ {is : List Nat} {xs : List PyData} {ρ ρ1 : Ev}, putMany is xs ρ = some ρ1 → xs.length = is.length
  | [], [], _, _, _ => rfl
  | [], x :: xs, _, _, h => by cases h
  | i :: is, [], _, _, h => by cases h
  | i :: is, x :: xs, ρ, ρ1, h => by
    have h : putMany is xs (putAt i (.d x) ρ) = some ρ1 := h
    rw [List.length_cons, List.length_cons, putMany_len h]
theorem DG.tup {is : List Nat} {es : List Expr} {n : Nat} (hc : X.calm = true) (h : DGs X is es) (h1 : (assignEach es X.env).length = is.length) (h2 : (assignEach es X.env).findIdx? (·.1) = none) : DG X (.tup is) (.Tuple es n pos) := by
  obtain ⟨g, hg, q⟩ := h
  refine ⟨_, pg_tup hc hg h1 h2, fun x v ρ ρ1 σ T B μ S H Q ha er rl d k => ?_⟩
  cases x with
  | tuple xs =>
    have ha : putMany is xs ρ = some ρ1 := ha
    obtain ⟨a, vs, e, h3, dd⟩ := dat_tup d
    refine ⟨a, vs, e, .inl (.inl h3), ?_, ?_⟩
    · rw [← dd.length, putMany_len ha]
    · exact q xs vs ρ ρ1 σ T B μ S H Q ha er rl dd fun σ1 er1 hw => k σ1 er1 fun own ho => hw own ho
  | _ => cases ha
end
end Ci

end
section
set_option linter.all false
set_option autoImplicit false
set_option maxHeartbeats 1000000
namespace Ci
open PySem L2
variable [kI : HasK]

section
variable {G : Glob} {X : Cx} {Wx : WX} {F : FnT} {L : Nat → ActT → List O → R W} {A : ActT} {a b c d : C} {ea eb ec e tg : Expr} {p pos : Pos} {x : Str}

def TEC (G : Glob) (Wx : WX) (F : FnT) (L : Nat → ActT → List O → R W) (A : ActT) (c : C) : TE := fun σ H Q => ∃ (ρ : Ev) (B : Addr → Prop) (μ : List Addr) (S : List O), EnvR H μ (Live B μ S) ρ σ ∧ Rel G.T B μ S H ∧ OKE G B (ev F L A c ρ S) μ S H (fun cls d H' => Wx cls d σ H') Q
theorem DE.can (h : DE G X Wx F L A c e) : PE X e (TEC G Wx F L A c) := by
  obtain ⟨t, ht, q⟩ := h
  exact ⟨fun pins s σ H Q I ⟨ρ, B, μ, S, er, rl, o⟩ => ht.run pins s σ H Q I (q ρ σ B μ S H Q er rl o)⟩
def TTC (G : Glob) (Wx : WX) (F : FnT) (L : Nat → ActT → List O → R W) (A : ActT) (c : Option C) : TT := fun σ H Q => ∃ (ρ : Ev) (B : Addr → Prop) (μ : List Addr) (S : List O), EnvR H μ (Live B μ S) ρ σ ∧ Rel G.T B μ S H ∧ OKT G B (evt F L A c ρ S) μ S H (fun cls d H' => Wx cls d σ H') Q
/-- a clause's test, if there is one -/
def DTs (G : Glob) (X : Cx) (Wx : WX) (F : FnT) (L : Nat → ActT → List O → R W) (A : ActT) (c : Option C) (ifs : List Expr) : Prop := ∃ t : TT, PTs X ifs t ∧ ∀ (ρ : Ev) (σ : L2.St) (B : Addr → Prop) (μ : List Addr) (S : List O) (H : Hp) (Q : Bool → Hp → Prop), EnvR H μ (Live B μ S) ρ σ → Rel G.T B μ S H → OKT G B (evt F L A c ρ S) μ S H (fun cls d H' => Wx cls d σ H') Q → t σ H Q
theorem DTs.none : DTs G X Wx F L A Option.none [] := ⟨_, pts_nil, fun ρ σ B μ S H Q er rl o => by
  rw [evt] at o
  exact okt_here o rl⟩
theorem DTs.one (h : DT G X Wx F L A c e) : DTs G X Wx F L A (Option.some c) [e] := by
  obtain ⟨t, ht, q⟩ := h
  refine ⟨_, pts_one ht, fun ρ σ B μ S H Q er rl o => ?_⟩
  rw [evt] at o
  exact q ρ σ B μ S H Q er rl o
theorem DTs.can {c : Option C} {ifs : List Expr} (h : DTs G X Wx F L A c ifs) : PTs X ifs (TTC G Wx F L A c) := by
  obtain ⟨t, ht, q⟩ := h
  exact ⟨fun pins s σ H Q I ⟨ρ, B, μ, S, er, rl, o⟩ => ht.run pins s σ H Q I (q ρ σ B μ S H Q er rl o)⟩
def TGC (t : Tg) : TG := fun v σ H Q => ∃ (x : PyData) (ρ ρ1 : Ev) (T : List (Addr × Str)) (B : Addr → Prop) (μ : List Addr) (S : List O), aim t x ρ = some ρ1 ∧ EnvR H μ (Live B μ S) ρ σ ∧ Rel T B μ S H ∧ Dat H (Live B μ S) x v ∧
  (∀ σ1, EnvR H μ (Live B μ S) ρ1 σ1 → (∀ own, tgIn t own → L2.wipe σ1 own = L2.wipe σ own) → Q σ1 H)
theorem DG.can {t : Tg} (h : DG X t e) : PG X e (TGC t) := by
  obtain ⟨g, hg, q⟩ := h
  exact ⟨fun pins s σ H v u Q I r ⟨x, ρ, ρ1, T, B, μ, S, h1, h2, h3, h4, h5⟩ => hg.run pins s σ H v u Q I r (q x v ρ ρ1 σ T B μ S H Q h1 h2 h3 h4 h5)⟩

theorem WR.more {H : Hp} {B B' : Addr → Prop} {μ : List Addr} {S : List O} (hb : ∀ a, B' a → B a ∨ H a = none) {w : W} {v : V} (h : WR H μ (Live B μ S) w v) : WR H μ (Live B' μ S) w v := by
  cases w with
  | d p => exact Dat.more hb p v h
  | ref n => exact h
  | scr xs =>
    obtain ⟨a, vs, e, r, d⟩ := h
    refine ⟨a, vs, e, ?_, DatL.more hb xs vs d⟩
    rcases r with ⟨r, nl⟩ | r
    · refine .inl ⟨r, fun l => ?_⟩
      rcases l with l | l
      · rcases hb a l with z | z
        · exact nl (.inl z)
        · rcases r with r | ⟨o, r⟩ <;> (rw [z] at r; cases r)
      · exact nl (.inr l)
    · exact .inr r
theorem EnvR.more {H : Hp} {B B' : Addr → Prop} {μ : List Addr} {S : List O} (hb : ∀ a, B' a → B a ∨ H a = none) {ρ : Ev} {σ : L2.St} (h : EnvR H μ (Live B μ S) ρ σ) : EnvR H μ (Live B' μ S) ρ σ :=
  ⟨h.len, fun i w e => by obtain ⟨v, h1, h2⟩ := h.at_ i w e; exact ⟨v, h1, h2.more hb⟩⟩
theorem KvR.more {κ : Type} {H : Hp} {B B' : Addr → Prop} {μ : List Addr} {S : List O} (hb : ∀ a, B' a → B a ∨ H a = none) : ∀ {kvs : List (κ × W)} {kv : List (κ × V)}, KvR H μ (Live B μ S) kvs kv → KvR H μ (Live B' μ S) kvs kv
  | [], kv, h => h
  | p :: r, kv, h => by
    obtain ⟨v, t, e, h1, h2⟩ := h
    exact ⟨v, t, e, h1.more hb, KvR.more hb h2⟩
theorem OR.more {H : Hp} {B B' : Addr → Prop} {μ : List Addr} {S : List O} (hb : ∀ a, B' a → B a ∨ H a = none) {a : Addr} {o : O} (h : OR H μ (Live B μ S) a o) : OR H μ (Live B' μ S) a o := by
  cases o with
  | lst ds => obtain ⟨vs, e1, d⟩ := h; exact ⟨vs, e1, DatL.more hb ds vs d⟩
  | dK kvs => obtain ⟨kv, e1, d⟩ := h; exact ⟨kv, e1, d.more hb⟩
  | dT kvs => obtain ⟨kv, e1, d⟩ := h; exact ⟨kv, e1, d.more hb⟩
  | dead => trivial
/-- a list begun at D -/
theorem Rel.begin_ {T : List (Addr × Str)} {B : Addr → Prop} {μ : List Addr} {S : List O} {H : Hp} (R : Rel T B μ S H) {D : Addr} (hD : H D = none) (vs : List V) : Rel T (fun a => B a ∨ a = D) μ S (upd H D (.lst vs)) := by
  have hb : ∀ a, (B a ∨ a = D) → B a ∨ H a = none := fun a h => h.elim .inl fun z => .inr (by rw [z]; exact hD)
  have R1 := R.ext (same_upd (o := .lst vs) hD)
  have hb1 : ∀ (a : Addr) (o : O), OR H μ (Live B μ S) a o → OR (upd H D (.lst vs)) μ (Live (fun a => B a ∨ a = D) μ S) a o := fun a o h => by
    have q := OR.more hb h
    have E : Evo μ S H μ S (upd H D (.lst vs)) := .ext (same_upd hD)
    cases o with
    | lst ds => obtain ⟨us, e1, d⟩ := q; exact ⟨us, same_upd hD _ _ e1, DatL.evo R E ds us d⟩
    | dK kvs => obtain ⟨kv, e1, d⟩ := q; exact ⟨kv, same_upd hD _ _ e1, d.evo R E⟩
    | dT kvs => obtain ⟨kv, e1, d⟩ := q; exact ⟨kv, same_upd hD _ _ e1, d.evo R E⟩
    | dead => trivial
  refine ⟨R.len, R.inj, fun i a o h1 h2 => hb1 a o (R.obj i a o h1 h2), R1.tabs, fun a h => ?_, fun a h l => ?_⟩
  · rcases h with h | h
    · obtain ⟨us, q⟩ := R.bl a h
      exact ⟨us, same_upd hD _ _ q⟩
    · rw [h]; exact ⟨vs, upd_same⟩
  · rcases h with h | h
    · exact R.bn a h l
    · rw [h] at l
      exact R.some_of (.inr l) hD
mutual
/-- what is made at D grows: no datum sees it -/
theorem Dat.grow {H : Hp} {D : Addr} {L : Addr → Prop} {us vs : List V} (hl : L D) (hd : H D = some (.lst us)) : ∀ (p : PyData) (v : V), Dat H L p v → Dat (upd H D (.lst vs)) L p v
  | .none, v, h => by simpa only [Dat] using h
  | .bool b, v, h => by simpa only [Dat] using h
  | .int i, v, h => by simpa only [Dat] using h
  | .str s, v, h => by simpa only [Dat] using h
  | .list xs, v, h => by
    simp only [Dat] at h ⊢
    obtain ⟨a, ws, e, r, nl, d⟩ := h
    have ne : a ≠ D := fun z => nl (by rw [z]; exact hl)
    exact ⟨a, ws, e, by rw [upd_ne ne]; exact r, nl, DatL.grow hl hd xs ws d⟩
  | .tuple xs, v, h => by
    simp only [Dat] at h ⊢
    obtain ⟨a, ws, e, r, d⟩ := h
    have ne : a ≠ D := fun z => by rw [z, hd] at r; cases r
    exact ⟨a, ws, e, by rw [upd_ne ne]; exact r, DatL.grow hl hd xs ws d⟩
  | .dict _, v, h => by simp only [Dat] at h
theorem DatL.grow {H : Hp} {D : Addr} {L : Addr → Prop} {us vs : List V} (hl : L D) (hd : H D = some (.lst us)) : ∀ (xs : List PyData) (ws : List V), DatL H L xs ws → DatL (upd H D (.lst vs)) L xs ws
  | [], ws, h => by simpa only [DatL] using h
  | x :: xs, ws, h => by
    simp only [DatL] at h ⊢
    obtain ⟨v, r, e, h1, h2⟩ := h
    exact ⟨v, r, e, Dat.grow hl hd x v h1, DatL.grow hl hd xs r h2⟩
end
theorem WR.grow {H : Hp} {D : Addr} {μ : List Addr} {L : Addr → Prop} {us vs : List V} (hl : L D) (hd : H D = some (.lst us)) {w : W} {v : V} (h : WR H μ L w v) : WR (upd H D (.lst vs)) μ L w v := by
  cases w with
  | d p => exact Dat.grow hl hd p v h
  | ref n => exact h
  | scr xs =>
    obtain ⟨a, ws, e, r, d⟩ := h
    refine ⟨a, ws, e, ?_, DatL.grow hl hd xs ws d⟩
    rcases r with ⟨r, nl⟩ | r
    · have ne : a ≠ D := fun z => nl (by rw [z]; exact hl)
      refine .inl ⟨?_, nl⟩
      rcases r with r | ⟨o, r⟩
      · exact .inl (by rw [upd_ne ne]; exact r)
      · exact .inr ⟨o, by rw [upd_ne ne]; exact r⟩
    · exact .inr r
theorem EnvR.grow {H : Hp} {D : Addr} {μ : List Addr} {L : Addr → Prop} {us vs : List V} (hl : L D) (hd : H D = some (.lst us)) {ρ : Ev} {σ : L2.St} (h : EnvR H μ L ρ σ) : EnvR (upd H D (.lst vs)) μ L ρ σ :=
  ⟨h.len, fun i w e => by obtain ⟨v, h1, h2⟩ := h.at_ i w e; exact ⟨v, h1, h2.grow hl hd⟩⟩
theorem KvR.grow {κ : Type} {H : Hp} {D : Addr} {μ : List Addr} {L : Addr → Prop} {us vs : List V} (hl : L D) (hd : H D = some (.lst us)) : ∀ {kvs : List (κ × W)} {kv : List (κ × V)}, KvR H μ L kvs kv → KvR (upd H D (.lst vs)) μ L kvs kv
  | [], kv, h => h
  | p :: r, kv, h => by
    obtain ⟨v, t, e, h1, h2⟩ := h
    exact ⟨v, t, e, h1.grow hl hd, KvR.grow hl hd h2⟩
theorem Tabs.grow {T : List (Addr × Str)} {H : Hp} {D : Addr} {us vs : List V} (hd : H D = some (.lst us)) (t : LamX.Tabs T H) : LamX.Tabs T (upd H D (.lst vs)) := fun q hq => by
  obtain ⟨ps, h1, h2, h3⟩ := t q hq
  have keep : ∀ b o, (∀ ws, o ≠ HO.lst ws) → H b = some o → upd H D (.lst vs) b = some o := fun b o hn e => by
    rw [upd_ne (fun z => hn us (by rw [z, hd] at e; exact (Option.some.inj e).symm))]
    exact e
  refine ⟨ps, keep _ _ (fun ws z => by cases z) h1, h2, fun pos cv hc => ?_⟩
  obtain ⟨c, e1, e2⟩ := h3 pos cv hc
  exact ⟨c, e1, keep _ _ (fun ws z => by unfold LamX.CodeO at z; cases z) e2⟩
theorem Rel.grow {T : List (Addr × Str)} {B : Addr → Prop} {μ : List Addr} {S : List O} {H : Hp} (R : Rel T B μ S H) {D : Addr} {us vs : List V} (hB : B D) (hd : H D = some (.lst us)) : Rel T B μ S (upd H D (.lst vs)) := by
  have hl : Live B μ S D := .inl hB
  refine ⟨R.len, R.inj, fun i a o h1 h2 => ?_, Tabs.grow hd R.tabs, fun a h => ?_, R.bn⟩
  · have q := R.obj i a o h1 h2
    have ne : o ≠ O.dead → a ≠ D := fun ho z => R.bn D hB ⟨i, o, by rw [← z]; exact h1, h2, ho⟩
    cases o with
    | lst ds => obtain ⟨ws, e1, d⟩ := q; exact ⟨ws, by rw [upd_ne (ne (by intro z; cases z))]; exact e1, DatL.grow hl hd ds ws d⟩
    | dK kvs => obtain ⟨kv, e1, d⟩ := q; exact ⟨kv, by rw [upd_ne (ne (by intro z; cases z))]; exact e1, d.grow hl hd⟩
    | dT kvs => obtain ⟨kv, e1, d⟩ := q; exact ⟨kv, by rw [upd_ne (ne (by intro z; cases z))]; exact e1, d.grow hl hd⟩
    | dead => trivial
  · by_cases e : a = D
    · rw [e]; exact ⟨vs, upd_same⟩
    · obtain ⟨ws, q⟩ := R.bl a h
      exact ⟨ws, by rw [upd_ne e]; exact q⟩
/-- less that is being made -/
theorem Rel.less {T : List (Addr × Str)} {B B' : Addr → Prop} {μ : List Addr} {S : List O} {H : Hp} (R : Rel T B' μ S H) (hb : ∀ a, B a → B' a) : Rel T B μ S H := by
  have hb' : ∀ a, B a → B' a ∨ H a = none := fun a h => .inl (hb a h)
  exact ⟨R.len, R.inj, fun i a o h1 h2 => OR.more hb' (R.obj i a o h1 h2), R.tabs, fun a h => R.bl a (hb a h), fun a h => R.bn a (hb a h)⟩
/-- what was made at D is now a thing that may change -/
theorem Rel.take {T : List (Addr × Str)} {B : Addr → Prop} {μ : List Addr} {S : List O} {H : Hp} {D : Addr} (R : Rel T (fun a => B a ∨ a = D) μ S H) (hB : ¬ B D) {xs : List PyData} {vs : List V} (hd : H D = some (.lst vs)) (d : DatL H (Live (fun a => B a ∨ a = D) μ S) xs vs) :
    Rel T B (μ ++ [D]) (S ++ [.lst xs]) H := by
  have ho : O.lst xs ≠ O.dead := by intro z; cases z
  have live : Live B (μ ++ [D]) (S ++ [.lst xs]) = Live (fun a => B a ∨ a = D) μ S := by
    funext a
    apply propext
    unfold Live
    rw [LiveS.snoc R.len ho]
    constructor
    · rintro (h | h | h)
      · exact .inl (.inl h)
      · exact .inr h
      · exact .inl (.inr h)
    · rintro ((h | h) | h)
      · exact .inl h
      · exact .inr (.inr h)
      · exact .inr (.inl h)
  have pre : ∀ (w : W) (v : V) (L : Addr → Prop), WR H μ L w v → WR H (μ ++ [D]) L w v := fun w v L h => by
    cases w with
    | d p => exact h
    | ref n => obtain ⟨a, h1, h2⟩ := h; exact ⟨a, by rw [List.getElem?_append_left (List.getElem?_eq_some_iff.mp h1).1]; exact h1, h2⟩
    | scr xs => exact h
  have preK : ∀ {κ : Type} {kvs : List (κ × W)} {kv : List (κ × V)} (L : Addr → Prop), KvR H μ L kvs kv → KvR H (μ ++ [D]) L kvs kv := by
    intro κ kvs
    induction kvs with
    | nil => intro kv L h; exact h
    | cons p r ih =>
      intro kv L h
      obtain ⟨v, t, e, h1, h2⟩ := h
      exact ⟨v, t, e, pre _ _ _ h1, ih _ h2⟩
  have nlD : ¬ LiveS μ S D := R.bn D (.inr rfl)
  have bd : ∀ (k : Nat) (x : Addr), (μ ++ [D])[k]? = some x → ¬ k < μ.length → k = μ.length ∧ x = D := fun k x a1 hk => by
    have z := (List.getElem?_eq_some_iff.mp a1).1
    rw [List.length_append, List.length_singleton] at z
    have e : k = μ.length := by omega
    subst e
    rw [List.getElem?_append_right (Nat.le_refl _)] at a1
    exact ⟨rfl, by simpa using a1.symm⟩
  refine ⟨by simp [R.len], fun i j a oi oj h1 h2 h3 h4 d1 d2 => ?_, fun i a q h1 h2 => ?_, R.tabs, fun a h => R.bl a (.inl h), fun a h l => ?_⟩
  · have old : ∀ (k : Nat) (x : Addr) (q : O), k < μ.length → (μ ++ [D])[k]? = some x → (S ++ [.lst xs])[k]? = some q → q ≠ O.dead → LiveS μ S x := fun k x q hk a1 a2 a3 =>
      ⟨k, q, by rw [List.getElem?_append_left hk] at a1; exact a1, by rw [List.getElem?_append_left (by rw [← R.len]; exact hk)] at a2; exact a2, a3⟩
    by_cases hi : i < μ.length
    · by_cases hj : j < μ.length
      · refine R.inj i j a oi oj ?_ ?_ ?_ ?_ d1 d2
        · rw [List.getElem?_append_left hi] at h1; exact h1
        · rw [List.getElem?_append_left hj] at h2; exact h2
        · rw [List.getElem?_append_left (by rw [← R.len]; exact hi)] at h3; exact h3
        · rw [List.getElem?_append_left (by rw [← R.len]; exact hj)] at h4; exact h4
      · obtain ⟨_, e⟩ := bd j a h2 hj
        exact absurd (old i a oi hi h1 h3 d1) (by rw [e]; exact nlD)
    · obtain ⟨e1, e⟩ := bd i a h1 hi
      by_cases hj : j < μ.length
      · exact absurd (old j a oj hj h2 h4 d2) (by rw [e]; exact nlD)
      · obtain ⟨e2, _⟩ := bd j a h2 hj
        rw [e1, e2]
  · rw [live]
    by_cases hi : i < μ.length
    · rw [List.getElem?_append_left hi] at h1
      rw [List.getElem?_append_left (by rw [← R.len]; exact hi)] at h2
      have z := R.obj i a q h1 h2
      cases q with
      | lst ds => exact z
      | dK kvs => obtain ⟨kv, e1, d⟩ := z; exact ⟨kv, e1, preK _ d⟩
      | dT kvs => obtain ⟨kv, e1, d⟩ := z; exact ⟨kv, e1, preK _ d⟩
      | dead => trivial
    · obtain ⟨e1, e2⟩ := bd i a h1 hi
      subst e1
      rw [R.len, List.getElem?_append_right (Nat.le_refl _)] at h2
      have e3 : q = O.lst xs := by simpa using h2.symm
      rw [e3, e2]
      exact ⟨vs, hd, d⟩
  · rcases (LiveS.snoc R.len ho).mp l with z | z
    · exact R.bn a (.inl h) z
    · rw [z] at h; exact hB h
end
end Ci

end
section
set_option linter.all false
set_option autoImplicit false
set_option maxHeartbeats 2000000
namespace Ci
open PySem L2
variable [kI : HasK]

theorem wipe_get (σ : L2.St) (i : Nat) : ∀ vs : List Nat, (L2.wipe σ vs)[i]? = if i ∈ vs then σ[i]?.map (fun _ => none) else σ[i]?
  | [] => by simp [L2.wipe]
  | v :: vs => by
    unfold L2.wipe
    have ih := wipe_get σ i vs
    have hl : (L2.wipe σ vs).length = σ.length := L2.wipe_length σ vs
    by_cases hv : v = i
    · subst hv
      rw [if_pos List.mem_cons_self, List.getElem?_set_self']
      by_cases hlt : v < σ.length
      · rw [List.getElem?_eq_getElem (by rw [hl]; exact hlt), List.getElem?_eq_getElem hlt]; rfl
      · rw [List.getElem?_eq_none (by rw [hl]; omega), List.getElem?_eq_none (by omega)]; rfl
    · rw [List.getElem?_set_ne hv, ih]
      by_cases hi : i ∈ vs
      · rw [if_pos hi, if_pos (List.mem_cons_of_mem _ hi)]
      · rw [if_neg hi, if_neg (by simp only [List.mem_cons, not_or]; exact ⟨fun z => hv z.symm, hi⟩)]
theorem wipe_wipe (σ : L2.St) (vs : List Nat) : L2.wipe (L2.wipe σ vs) vs = L2.wipe σ vs := by
  apply List.ext_getElem?
  intro i
  rw [wipe_get, wipe_get]
  by_cases hi : i ∈ vs
  · simp only [if_pos hi]
    cases σ[i]? <;> rfl
  · simp only [if_neg hi]
theorem compL_noerr {aimF : PyData → Option Ev} {t e : Ev → List O → R W} : ∀ (xs acc : List PyData) (S : List O) (c : Nat) (f : PyData) (S' : List O), compL aimF t e xs acc S ≠ .err c f S'
  | [], acc, S, c, f, S' => by unfold compL; intro h; cases h
  | x :: xs, acc, S, c, f, S' => by
    unfold compL
    split
    · intro h; cases h
    · split
      · split
        · exact compL_noerr xs _ _ c f S'
        · intro h; cases h
      · exact compL_noerr xs _ _ c f S'
      · intro h; cases h
/-- what is made at D is not of the state ahead -/
theorem Evo.made {μ μ1 : List Addr} {S S1 : List O} {H H1 : Hp} {D : Addr} {vs : List V} (E : Evo μ1 S1 H1 μ S H) (hD : H1 D = none) : Evo μ1 S1 H1 μ S (upd H D (.lst vs)) :=
  ⟨E.pre, fun a o h nl nt => by rw [upd_ne (ne_of_none h hD)]; exact E.keep a o h nl nt, E.new⟩

section
variable {G : Glob} {X : Cx} {Wx : WX} {F : FnT} {L : Nat → ActT → List O → R W} {A : ActT} {a b c d e it : C} {ea eb ec elt tg iter : Expr} {p pos : Pos} {x : Str}

/-- the reading of a comprehension -/
theorem comp_red {wi : TI} {m : Bool} {vs : List Nat} {tgt : Tg} {t : Option C} (hin : tgIn tgt vs)
    (q : ∀ (ρ : Ev) (σ : L2.St) (B : Addr → Prop) (μ : List Addr) (S : List O) (H : Hp) (R : It → Hp → Prop), EnvR H μ (Live B μ S) ρ σ → Rel G.T B μ S H → OKI G Wx B σ (ev F L A it ρ S) μ S H R → wi σ H R)
    {ρ : Ev} {σ : L2.St} {B : Addr → Prop} {μ : List Addr} {S : List O} {H : Hp} {Q : VK} (er : EnvR H μ (Live B μ S) ρ σ) (rl : Rel G.T B μ S H)
    (o : OKE G B (ev F L A (.comp m vs tgt it t e) ρ S) μ S H (fun cls d H' => Wx cls d σ H') Q) :
    tLc wi (TGC tgt) (TTC G (fun _ _ _ _ => False) F L A t) (TEC G (fun _ _ _ _ => False) F L A e) vs σ H Q := by
  rw [ev] at o
  refine q ρ σ B μ S H _ er rl ?_
  cases hw : ev F L A it ρ S with
  | stuck => rw [hw] at o; exact o
  | err c f S' => rw [hw] at o; exact o
  | ok w S1 =>
    rw [hw] at o
    simp only [R.bind, overW] at o
    cases hx : walkOf w with
    | none => rw [hx] at o; exact o.elim
    | some xs =>
      rw [hx] at o
      simp only [] at o
      split at o
      · rename_i hlen
        refine ⟨xs, hx, fun J μ1 H1 e1 r1 hW D hD => ?_⟩
        cases hc : compL (fun x => aim tgt x (wipeE ρ vs)) (fun ρ1 S2 => evt F L A t ρ1 S2) (fun ρ1 S2 => ev F L A e ρ1 S2) xs [] S1 with
        | stuck => rw [hc] at o; exact o.elim
        | err c f S2 => exact absurd hc (compL_noerr _ _ _ _ _ _)
        | ok ys S2 =>
          rw [hc] at o
          have o : OKE G B (lstAs m ys S2) μ S H (fun cls d H' => Wx cls d σ H') Q := o
          have hb : ∀ a, (B a ∨ a = D) → B a ∨ H1 a = none := fun a h => h.elim .inl fun z => .inr (by rw [z]; exact hD)
          have hW' := hW (fun a => B a ∨ a = D) hb
          have er0 : EnvR H1 μ1 (Live (fun a => B a ∨ a = D) μ1 S1) (wipeE ρ vs) (L2.wipe σ vs) := ((er.evo rl e1).more hb).wipe vs
          have nB : ¬ B D := fun z => by
            obtain ⟨us, h⟩ := r1.bl D z
            rw [hD] at h; cases h
          refine ⟨fun i m' H => m' = xs.length - i ∧ i ≤ xs.length ∧ ∃ (μ : List Addr) (S : List O) (acc : List V) (accD : List PyData), Evo μ1 S1 H1 μ S H ∧ Rel G.T (fun a => B a ∨ a = D) μ S H ∧ H D = some (.lst acc) ∧ DatL H (Live (fun a => B a ∨ a = D) μ S) accD acc ∧ accD.length ≤ i ∧
            compL (fun x => aim tgt x (wipeE ρ vs)) (fun ρ1 S2 => evt F L A t ρ1 S2) (fun ρ1 S2 => ev F L A e ρ1 S2) (xs.drop i) accD S = .ok ys S2, ⟨xs.length, rfl, Nat.zero_le _, μ1, S1, [], [], .ext (same_upd hD), r1.begin_ hD [], upd_same, DatL.nil, Nat.le_refl _, hc⟩, ?_⟩
          rintro i m' H2 ⟨rfl, hi, μ2, S3, acc, accD, e2, r2, hd, da, hal, hcl⟩
          obtain ⟨hgo, hst⟩ := hW' μ2 S3 H2 e2
          by_cases hlt : i < xs.length
          · have hxi : xs[i]? = some xs[i] := List.getElem?_eq_getElem hlt
            obtain ⟨g1, g2⟩ := hgo i xs[i] hxi
            refine .inr ⟨g1, fun H => ∃ (μ : List Addr) (S : List O) (acc : List V) (accD : List PyData), Evo μ1 S1 H1 μ S H ∧ Rel G.T (fun a => B a ∨ a = D) μ S H ∧ H D = some (.lst acc) ∧ DatL H (Live (fun a => B a ∨ a = D) μ S) accD acc ∧ accD.length ≤ i + 1 ∧
              compL (fun x => aim tgt x (wipeE ρ vs)) (fun ρ1 S2 => evt F L A t ρ1 S2) (fun ρ1 S2 => ev F L A e ρ1 S2) (xs.drop (i + 1)) accD S = .ok ys S2, fun H' h => ⟨xs.length - (i + 1), by omega, rfl, hlt, h⟩, fun v H' hy => ?_⟩
            obtain ⟨rfl, dv⟩ := g2 v H' hy
            rw [List.drop_eq_getElem_cons hlt] at hcl
            unfold compL at hcl
            split at hcl
            · cases hcl
            · rename_i ρ1 ha
              refine ⟨xs[i], wipeE ρ vs, ρ1, G.T, (fun a => B a ∨ a = D), μ2, S3, ha, er0.evo r1 e2, r2, dv, fun σ1 er1 hw1 => ⟨?_, ?_⟩⟩
              · rw [hw1 vs hin, wipe_wipe]
              · refine ⟨ρ1, (fun a => B a ∨ a = D), μ2, S3, er1, r2, ?_⟩
                have keepD : ∀ {μ4 : List Addr} {S4 : List O} {H4 : Hp}, Evo μ2 S3 H' μ4 S4 H4 → H4 D = some (.lst acc) := fun e4 => e4.keep D _ hd (r2.bn D (.inr rfl)) (fun ps z => by cases z)
                split at hcl
                · rename_i S4 ht
                  rw [ht]
                  intro μ4 H4 e4 r4
                  rw [if_pos rfl]
                  refine ⟨ρ1, (fun a => B a ∨ a = D), μ4, S4, er1.evo r2 e4, r4, ?_⟩
                  split at hcl
                  · rename_i y S5 he
                    rw [he]
                    intro u μ5 H5 e5 r5 w5
                    have h5 : H5 D = some (.lst acc) := keepD (e4.trans e5)
                    have lD : Live (fun a => B a ∨ a = D) μ5 S5 D := .inl (.inr rfl)
                    have da5 := DatL.evo r2 (e4.trans e5) accD acc da
                    refine ⟨acc, h5, ?_, μ5, S5, acc ++ [u], accD ++ [y], (e2.trans (e4.trans e5)).made hD, r5.grow (.inr rfl) h5, upd_same, ?_, by simp; omega, hcl⟩
                    · rw [← da.length]
                      have : sizeLine = 16777216 := by decide
                      omega
                    · refine DatL.append (DatL.grow lD h5 _ _ da5) ?_
                      simp only [DatL]
                      exact ⟨u, [], rfl, Dat.grow lD h5 y u w5, rfl⟩
                  · cases hcl
                · rename_i S4 ht
                  rw [ht]
                  intro μ4 H4 e4 r4
                  rw [if_neg Bool.false_ne_true]
                  exact ⟨μ4, S4, acc, accD, e2.trans e4, r4, keepD e4, DatL.evo r2 e4 accD acc da, by omega, hcl⟩
                · cases hcl
          · have hie : i = xs.length := by omega
            subst hie
            refine .inl ⟨hst, ?_⟩
            rw [List.drop_length] at hcl
            unfold compL at hcl
            cases hcl
            have ev12 := e1.trans e2
            unfold lstAs at o
            cases m with
            | true =>
              rw [if_pos rfl] at o
              refine o (.ref D) (μ2 ++ [D]) H2 ?_ (r2.take nB hd da) ⟨D, ?_, rfl⟩
              · refine ⟨fun n a h => by rw [List.getElem?_append_left (List.getElem?_eq_some_iff.mp (ev12.pre n a h)).1]; exact ev12.pre n a h, ev12.keep, fun a l => ?_⟩
                rcases (LiveS.snoc r2.len (by intro z; cases z)).mp l with z | z
                · exact ev12.new a z
                · rw [z]
                  exact e1.back (.of hD)
              · rw [← r2.len]
                simp
            | false =>
              rw [if_neg Bool.false_ne_true] at o
              refine o (.ref D) μ2 H2 ev12 (r2.less fun a h => .inl h) ?_
              show Dat H2 (Live B μ2 S2) (.list ys) (.ref D)
              simp only [Dat]
              refine ⟨D, acc, rfl, hd, fun l => ?_, DatL.more (fun a h => .inl (.inl h)) ys acc da⟩
              rcases l with l | l
              · exact nB l
              · exact r2.bn D (.inr rfl) l
      · exact o.elim

theorem DE.comp {m : Bool} {own : List (Str × Nat)} {tgt : Tg} {t : Option C} {ifs : List Expr} {scope : Scope} (hc : X.calm = true) (nd : X.N.Nodup) (hI : DI G X Wx F L A it tg iter) (hok : BlkOk X.N X.env.scope scope own) (hin : tgIn tgt (own.map (·.2)))
    (hg : ∀ (s : Shared) (H : Hp) (C : Addr) (cl : List (Str × Addr)) (fp : List Addr), DG (X.blk s H scope (compEnvC scope cl C X.env) fp) tgt tg)
    (ht : ∀ (s : Shared) (H : Hp) (C : Addr) (cl : List (Str × Addr)) (fp : List Addr), DTs G (X.blk s H scope (compEnvC scope cl C X.env) fp) (fun _ _ _ _ => False) F L A t ifs)
    (he : ∀ (s : Shared) (H : Hp) (C : Addr) (cl : List (Str × Addr)) (fp : List Addr), DE G (X.blk s H scope (compEnvC scope cl C X.env) fp) (fun _ _ _ _ => False) F L A e elt)
    (hs : ∀ x, foldedSetIterable iter X.env x = pure x) : DE G X Wx F L A (.comp m (own.map (·.2)) tgt it t e) (.ListComp elt [⟨tg, iter, ifs, 0⟩] scope pos) := by
  obtain ⟨wi, hi, q⟩ := hI
  exact ⟨_, pe_lc hc nd hi hok (fun s H C cl fp => (hg s H C cl fp).can) (fun s H C cl fp => (ht s H C cl fp).can) (fun s H C cl fp => (he s H C cl fp).can) hs,
    fun ρ σ B μ S H Q er rl o => comp_red hin q er rl o⟩
end
end Ci

end
section
set_option linter.all false
set_option autoImplicit false
set_option maxHeartbeats 1000000
namespace Ci
open PySem L2
variable [kI : HasK]

structure FOk (K : PySem.W.Frag) (mg : Str → Option Value) (i : FI) : Prop where
  gm : mg i.name = some (.ref i.addr)
  kp : PySem.W.keepIn K (.ref i.addr) = true
  bd : Binds K i.fd i.ps []
  kb : i.kw = true → ∀ (s : Shared) (ws : List Value), K.In s.heap → ws.length = i.ps.length → BindsTo s i.fd ⟨[], i.ps.zip ws⟩ (i.ps.zip ws)

/-- the defs do what F tells, with room for k calls -/
def FnG (G : Glob) (P : Program) (w : World) (K : PySem.W.Frag) (mg : Str → Option Value) (base : Heap) (k : Nat) (F : FnT) : Prop := ∀ (f : Nat) (i : FI), G.fi f = some i → ∀ (A : Around) (outer : List Env) (s : Shared) (H : Hp) (args : Args) (us : List Value) (vs : List V) (ws : List W) (B : Addr → Prop) (μ : List Addr) (S : List O) (Q : VK) (E : XK),
  Room k A → (i.gu = true → A.guards = some []) → Env0 P w K mg base A outer s H → BindsTo s i.fd args (i.ps.zip us) → Vals vs us → us.length = i.ps.length → WRs H μ (Live B μ S) ws vs → Rel G.T B μ S H → OKE G B (F f ws S) μ S H E Q → codeAny (model P w) A (.call (.ref i.addr) args) (CR (L2.CX P w) outer P w H s Q E) s

/-- how many arguments the defs take -/
def FnL (G : Glob) (F : FnT) : Prop := ∀ (f : Nat) (i : FI), G.fi f = some i → ∀ (ws : List W) (S : List O), F f ws S ≠ .stuck → ws.length = i.ps.length
section
variable {G : Glob} {X : Cx} {Wx : WX} {F : FnT} {L : Nat → ActT → List O → R W} {A : ActT} {a b c d : C} {ea eb ec e : Expr} {p pos : Pos} {x : Str} {k f : Nat} {i : FI}

/-- what a call's reading asks behind the arguments -/
def tFn (G : Glob) (Wx : WX) (F : FnT) (f : Nat) (n : Nat) (t : TA) : TE := fun σ H Q => t σ H fun vs H1 => vs.length = n ∧ ∃ (ws : List W) (B : Addr → Prop) (μ : List Addr) (S : List O), WRs H1 μ (Live B μ S) ws vs ∧ Rel G.T B μ S H1 ∧ OKE G B (F f ws S) μ S H1 (fun cls d H' => Wx cls d σ H') Q
theorem run_def {pins : List (Addr × Obj)} {σ : L2.St} {H : Hp} {s : Shared} {Q : VK} {args : Args} {us : List Value} {vs : List V} {ws : List W} {B : Addr → Prop} {μ : List Addr} {S : List O} (hF : FnG G X.prog X.w X.K X.mg X.base k F) (hi : G.fi f = some i) (hr : Room k X.A) (hgd : i.gu = true → X.A.guards = some []) (tk : Takes X Wx)
    (I : Inv X pins σ H s) (hb : BindsTo s i.fd args (i.ps.zip us)) (rv : Vals vs us) (hl : us.length = i.ps.length) (h1 : WRs H μ (Live B μ S) ws vs) (h2 : Rel G.T B μ S H) (o : OKE G B (F f ws S) μ S H (fun cls d H' => Wx cls d σ H') Q) :
    codeAny (model X.prog X.w) X.A (.call (.ref i.addr) args) (fun r s' => match r with
      | .ok (.ret u) => EP X pins σ Q u s'
      | .ok _ => False
      | .error e => X.xe e s') s := by
  refine codeAny_mono (hF f i hi X.A X.stack s H args us vs ws B μ S Q _ hr hgd I.env0 hb rv hl h1 h2 o) fun r s' hq => ?_
  cases r with
  | error e => exact passAt tk σ pins H s e s' I hq
  | ok fl =>
    cases fl with
    | ret u => exact I.after hq
    | next => exact hq.elim
    | brk => exact hq.elim
    | cont => exact hq.elim
theorem fn_len {B : Addr → Prop} {μ : List Addr} {S : List O} {H : Hp} {E : XK} {Q : VK} {ws : List W} (hL : FnL G F) (hi : G.fi f = some i) (o : OKE G B (F f ws S) μ S H E Q) : ws.length = i.ps.length := hL f i hi ws S fun z => by
  rw [z] at o
  exact o
theorem code_call {A : Around} {s : Shared} {M : Model} {f : Value} {args : List Value} {kw : List (Str × Value)} {Q : Value → Shared → Prop} {E : Value → Shared → Prop} (h : codeAny M A (.call f ⟨args, kw⟩) (fun r s' => match r with
      | .ok (.ret u) => Q u s'
      | .ok _ => False
      | .error e => E e s') s) : wpAny M A (call f args kw) Q E s := by
  refine wpAny_call (codeAny_mono h fun r s' hq => ?_)
  cases r with
  | error e => exact hq
  | ok fl =>
    cases fl with
    | ret u => exact hq
    | next => exact hq.elim
    | brk => exact hq.elim
    | cont => exact hq.elim
theorem DE.calls {cs : List C} {es : List Expr} (hF : FnG G X.prog X.w X.K X.mg X.base k F) (hL : FnL G F) (hi : G.fi f = some i) (ho : FOk X.K X.mg i) (hr : Room k X.A) (hgd : i.gu = true → X.A.guards = some []) (tk : Takes X Wx) (hg : Gl X i.name)
    (ha : DA G X Wx F L A cs (e :: es)) (hdb : (i.name == ("__debug__" : Str)) = false) (he : starEach (e :: es) X.env = (false, eval e X.env) :: starEach es X.env) (hpl : (backTo pos (starEach es X.env)).any (·.1) = false) :
    DE G X Wx F L A (.call f cs) (.Call (.Name i.name p) (e :: es) [] pos) := by
  obtain ⟨t, ht, q⟩ := ha
  refine ⟨tFn G Wx F f i.ps.length t, ⟨fun pins s σ H Q I h => ?_⟩, fun ρ σ B μ S H Q er rl z => ?_⟩
  · refine wpAny_Call_Name_kw (ld_glob I hg ho.gm ?_ hdb)
    refine PySem.W.callWith_K (h₀ := X.base) I.ok.mod.kin ho.kp (thn (ht.run pos pins s σ H _ I h) fun us s1 ⟨vs, H1, I1, rv, hn, ws, B, μ, S, h1, h2, o⟩ => ⟨I1.kIn, ?_⟩) he hpl
    have lu : us.length = i.ps.length := by rw [← rv.length]; exact hn
    have hb := ho.bd s1 us I1.kIn (by rw [List.append_nil]; exact lu)
    rw [List.append_nil] at hb
    exact code_call (run_def hF hi hr hgd tk I1 hb rv lu h1 h2 o)
  · rw [ev] at z
    exact q ρ σ B μ S H _ er rl (OKE.bindA z fun ws S1 vs μ1 H1 e1 r1 w1 o1 => ⟨by rw [← w1.length]; exact fn_len hL hi o1, ws, B, μ1, S1, w1, r1, o1⟩)
theorem DE.call0 (hF : FnG G X.prog X.w X.K X.mg X.base k F) (hL : FnL G F) (hi : G.fi f = some i) (ho : FOk X.K X.mg i) (hr : Room k X.A) (hgd : i.gu = true → X.A.guards = some []) (tk : Takes X Wx) (hg : Gl X i.name) (hdb : (i.name == ("__debug__" : Str)) = false) :
    DE G X Wx F L A (.call f []) (.Call (.Name i.name p) [] [] pos) := by
  refine ⟨tFn G Wx F f i.ps.length tNil, ⟨fun pins s σ H Q I h => ?_⟩, fun ρ σ B μ S H Q er rl z => ?_⟩
  · refine wpAny_Call_Name_kw (ld_glob I hg ho.gm ?_ hdb)
    obtain ⟨hn, ws, B, μ, S, h1, h2, o⟩ := h
    refine PySem.W.callWith_K0 I.kIn ho.kp ?_
    have hb := ho.bd s [] I.kIn hn
    exact code_call (run_def hF hi hr hgd tk I hb .nil hn h1 h2 o)
  · rw [ev, evs] at z
    have z : OKE G B (F f [] S) μ S H (fun cls d H' => Wx cls d σ H') Q := z
    exact ⟨fn_len hL hi z, [], B, μ, S, rfl, rl, z⟩
/-- the keywords' values -/
def DK (G : Glob) (X : Cx) (Wx : WX) (F : FnT) (L : Nat → ActT → List O → R W) (A : ActT) (cs : List C) (kws : List Keyword) : Prop := ∃ t : TA, PK X kws t ∧ ∀ (ρ : Ev) (σ : L2.St) (B : Addr → Prop) (μ : List Addr) (S : List O) (H : Hp) (Q : List V → Hp → Prop), EnvR H μ (Live B μ S) ρ σ → Rel G.T B μ S H → OKA G B (evs F L A cs ρ S) μ S H (fun cls d H' => Wx cls d σ H') Q → t σ H Q
theorem DK.nil : DK G X Wx F L A [] [] := ⟨_, pk_nil, fun ρ σ B μ S H Q er rl o => by
  unfold evs at o
  exact o [] μ H .refl rl rfl⟩
theorem DK.cons {c : C} {cs : List C} {kws : List Keyword} {nm : Option Str} {kp : Pos} (he : DE G X Wx F L A c e) (hs : DK G X Wx F L A cs kws) : DK G X Wx F L A (c :: cs) (⟨nm, e, kp⟩ :: kws) := by
  obtain ⟨t, ht, hq⟩ := he
  obtain ⟨u, hu, hr⟩ := hs
  refine ⟨_, pk_cons ht hu, fun ρ σ B μ S H Q er rl o => ?_⟩
  unfold evs at o
  refine hq ρ σ B μ S H _ er rl (OKA.bind o fun w S1 v μ1 H1 e1 r1 w1 o1 => ?_)
  refine hr ρ σ B μ1 S1 H1 _ (er.evo rl e1) r1 (OKA.bindA o1 fun ws S2 vs μ2 H2 e2 r2 w2 o2 => ?_)
  exact o2 (v :: vs) μ2 H2 .refl r2 ⟨v, vs, rfl, w1.evo r1 e2, w2⟩
/-- f(a=.., b=..), all parameters in their order -/
theorem DE.callK {cs : List C} {kws : List Keyword} (hF : FnG G X.prog X.w X.K X.mg X.base k F) (hL : FnL G F) (hi : G.fi f = some i) (ho : FOk X.K X.mg i) (hr : Room k X.A) (hgd : i.gu = true → X.A.guards = some []) (tk : Takes X Wx) (hg : Gl X i.name) (hkw : i.kw = true)
    (ha : DK G X Wx F L A cs kws) (hdb : (i.name == ("__debug__" : Str)) = false) (hall : (backToKw pos (keywordEach kws X.env)).all (·.1.isSome) = true) (hks : (backToKw pos (keywordEach kws X.env)).filterMap (·.1) = i.ps)
    (hpl : ((backTo pos (starEach [] X.env)).any (·.1) || (backToKw pos (keywordEach kws X.env)).any (·.1.isNone)) = false) : DE G X Wx F L A (.call f cs) (.Call (.Name i.name p) [] kws pos) := by
  obtain ⟨t, ht, q⟩ := ha
  refine ⟨tFn G Wx F f i.ps.length t, ⟨fun pins s σ H Q I h => ?_⟩, fun ρ σ B μ S H Q er rl z => ?_⟩
  · refine wpAny_Call_Name_kw (ld_glob I hg ho.gm ?_ hdb)
    refine PySem.W.callWith_KW0 (h₀ := X.base) I.ok.mod.kin ho.kp hall (thn (ht.run pos pins s σ H _ I h) fun us s1 ⟨vs, H1, I1, rv, hn, ws, B, μ, S, h1, h2, o⟩ => ⟨I1.kIn, ?_⟩) hpl
    have lu : us.length = i.ps.length := by rw [← rv.length]; exact hn
    rw [hks]
    exact code_call (run_def hF hi hr hgd tk I1 (ho.kb hkw s1 us I1.kIn lu) rv lu h1 h2 o)
  · rw [ev] at z
    exact q ρ σ B μ S H _ er rl (OKE.bindA z fun ws S1 vs μ1 H1 e1 r1 w1 o1 => ⟨by rw [← w1.length]; exact fn_len hL hi o1, ws, B, μ1, S1, w1, r1, o1⟩)
end
end Ci

end
section
set_option linter.all false
set_option autoImplicit false
set_option maxHeartbeats 1000000
namespace Ci
open PySem L2
variable [kI : HasK]

def OKS (G : Glob) (Wx : WX) (B : Addr → Prop) (r : SR) (μ : List Addr) (S : List O) (H : Hp) (D : Ends) : Prop := match r with
  | .next ρ' S' => ∀ σ' μ' H', Evo μ S H μ' S' H' → Rel G.T B μ' S' H' → EnvR H' μ' (Live B μ' S') ρ' σ' → D.nx σ' H'
  | .ret w S' => ∀ v μ' H', Evo μ S H μ' S' H' → Rel G.T B μ' S' H' → WR H' μ' (Live B μ' S') w v → D.rt v H'
  | .err c f ρ' S' => ∀ cls d σ' μ' H', Evo μ S H μ' S' H' → Rel G.T B μ' S' H' → EnvR H' μ' (Live B μ' S') ρ' σ' → ErrR G H' (Live B μ' S') c f cls d → Wx cls d σ' H'
  | .stuck => False
theorem OKS.evo {G : Glob} {Wx : WX} {B : Addr → Prop} {r : SR} {μ μ1 : List Addr} {S S1 : List O} {H H1 : Hp} {D : Ends} (h : OKS G Wx B r μ S H D) (E : Evo μ S H μ1 S1 H1) : OKS G Wx B r μ1 S1 H1 D := by
  cases r with
  | next ρ' S' => exact fun σ' μ' H' e => h σ' μ' H' (E.trans e)
  | ret w S' => exact fun v μ' H' e => h v μ' H' (E.trans e)
  | err c f ρ' S' => exact fun cls d σ' μ' H' e => h cls d σ' μ' H' (E.trans e)
  | stuck => exact h
theorem OKE.evo {G : Glob} {B : Addr → Prop} {r : R W} {μ μ1 : List Addr} {S S1 : List O} {H H1 : Hp} {E : XK} {Q : VK} (h : OKE G B r μ S H E Q) (e0 : Evo μ S H μ1 S1 H1) : OKE G B r μ1 S1 H1 E Q := by
  cases r with
  | ok w S' => exact fun v μ' H' e => h v μ' H' (e0.trans e)
  | err c f S' => exact fun cls d μ' H' e => h cls d μ' H' (e0.trans e)
  | stuck => exact h

section
variable (Gc : Cls) (G : Glob) (X : Cx) (Wx : WX) (F : FnT) (L : Nat → ActT → List O → R W) (A : ActT)
def DS (s : S) (st : Stmt) : Prop := ∃ t : TS, PS X st t ∧ ∀ (ρ : Ev) (σ : L2.St) (B : Addr → Prop) (μ : List Addr) (S : List O) (H : Hp) (D : Ends), EnvR H μ (Live B μ S) ρ σ → Rel G.T B μ S H → OKS G Wx B (ex Gc F L A s ρ S) μ S H D → t D σ H
def DSs (ss : List S) (sts : List Stmt) : Prop := ∃ t : TS, PSs X sts t ∧ ∀ (ρ : Ev) (σ : L2.St) (B : Addr → Prop) (μ : List Addr) (S : List O) (H : Hp) (D : Ends), EnvR H μ (Live B μ S) ρ σ → Rel G.T B μ S H → OKS G Wx B (exs Gc F L A ss ρ S) μ S H D → t D σ H
end

section
variable {Gc : Cls} {G : Glob} {X : Cx} {Wx : WX} {F : FnT} {L : Nat → ActT → List O → R W} {A : ActT} {a b c d : C} {ea eb ec e tg : Expr} {p pos : Pos} {x : Str} {s : S} {ss : List S} {st : Stmt} {sts : List Stmt}

theorem OKS.bindE {r : R W} {ρ : Ev} {σ : L2.St} {k : W → List O → SR} {B : Addr → Prop} {μ : List Addr} {S : List O} {H : Hp} {D : Ends} {P : VK} (er : EnvR H μ (Live B μ S) ρ σ) (rl : Rel G.T B μ S H) (h : OKS G Wx B (r.st ρ k) μ S H D)
    (hk : ∀ w S1 v μ1 H1, Evo μ S H μ1 S1 H1 → Rel G.T B μ1 S1 H1 → WR H1 μ1 (Live B μ1 S1) w v → OKS G Wx B (k w S1) μ1 S1 H1 D → P v H1) : OKE G B r μ S H (fun cls d H' => Wx cls d σ H') P := by
  cases r with
  | ok w S1 => exact fun v μ1 H1 e1 r1 w1 => hk w S1 v μ1 H1 e1 r1 w1 (OKS.evo (show OKS G Wx B (k w S1) μ S H D from h) e1)
  | err c f S1 => exact fun cls d μ1 H1 e1 r1 q => h cls d σ μ1 H1 e1 r1 (er.evo rl e1) q
  | stuck => exact h
theorem oks_next {ρ : Ev} {σ : L2.St} {B : Addr → Prop} {μ : List Addr} {S : List O} {H : Hp} {D : Ends} (h : OKS G Wx B (.next ρ S) μ S H D) (er : EnvR H μ (Live B μ S) ρ σ) (rl : Rel G.T B μ S H) : D.nx σ H := h σ μ H .refl rl er

theorem DSs.nil : DSs Gc G X Wx F L A [] [] := ⟨_, pss_nil, fun ρ σ B μ S H D er rl o => by
  rw [exs] at o
  exact oks_next o er rl⟩
theorem DSs.cons (h : DS Gc G X Wx F L A s st) (hs : DSs Gc G X Wx F L A ss sts) : DSs Gc G X Wx F L A (s :: ss) (st :: sts) := by
  obtain ⟨t, ht, q⟩ := h
  obtain ⟨u, hu, qs⟩ := hs
  refine ⟨_, pss_cons ht hu, fun ρ σ B μ S H D er rl o => ?_⟩
  rw [exs] at o
  refine q ρ σ B μ S H _ er rl ?_
  cases hx : ex Gc F L A s ρ S with
  | next ρ1 S1 =>
    rw [hx] at o
    exact fun σ1 μ1 H1 e1 r1 er1 => qs ρ1 σ1 B μ1 S1 H1 D er1 r1 (OKS.evo (show OKS G Wx B (exs Gc F L A ss ρ1 S1) μ S H D from o) e1)
  | ret w S1 => rw [hx] at o; exact o
  | err c f ρ1 S1 => rw [hx] at o; exact o
  | stuck => rw [hx] at o; exact o
/-- a list that may change is no longer to change -/
theorem DSs.frz {i : Nat} (hs : DSs Gc G X Wx F L A ss sts) : DSs Gc G X Wx F L A (.frz i :: ss) sts := by
  obtain ⟨u, hu, qs⟩ := hs
  refine ⟨u, hu, fun ρ σ B μ S H D er rl o => ?_⟩
  rw [exs, ex] at o
  rcases frzW_or ρ i S with z | ⟨n, xs, hn, hx, z⟩
  · rw [z] at o
    exact o.elim
  · rw [z] at o
    · skip
      obtain ⟨v, h1, a, h2, h3⟩ := er.at_ i _ hn
      obtain ⟨vs, h4, h5⟩ := rl.obj n a _ h2 hx
      have o : OKS G Wx B (exs Gc F L A ss (putAt i (.d (.list xs)) ρ) (S.set n .dead)) μ S H D := o
      have hlt : n < S.length := (List.getElem?_eq_some_iff.mp hx).1
      -- the store without n
      have old : ∀ (k : Nat) (q : O), (S.set n .dead)[k]? = some q → q ≠ .dead → k ≠ n ∧ S[k]? = some q := fun k q hk hq => by
        by_cases e : k = n
        · subst e
          rw [List.getElem?_set_self hlt] at hk
          exact absurd (Option.some.inj hk).symm hq
        · rw [List.getElem?_set_ne (Ne.symm e)] at hk
          exact ⟨e, hk⟩
      have sub : ∀ b, LiveS μ (S.set n .dead) b → LiveS μ S b := fun b ⟨k, q, g1, g2, g3⟩ => ⟨k, q, g1, (old k q g2 g3).2, g3⟩
      have nB : ¬ B a := fun z => rl.bn a z ⟨n, _, h2, hx, by intro z; cases z⟩
      have na : ¬ Live B μ (S.set n .dead) a := fun l => by
        rcases l with l | ⟨k, q, g1, g2, g3⟩
        · exact nB l
        · obtain ⟨e1, e2⟩ := old k q g2 g3
          exact e1 (rl.inj k n a q _ g1 h2 e2 hx g3 (by intro z; cases z))
      have E : Evo μ S H μ (S.set n .dead) H := ⟨fun _ _ h => h, fun b u h _ _ => h, fun b l => .inl (sub b l)⟩
      have rl' : Rel G.T B μ (S.set n .dead) H := by
        refine ⟨by rw [List.length_set]; exact rl.len, fun i j b oi oj g1 g2 g3 g4 d1 d2 => rl.inj i j b oi oj g1 g2 (old i oi g3 d1).2 (old j oj g4 d2).2 d1 d2, fun j b q g1 g2 => ?_, rl.tabs, rl.bl, fun b hb l => rl.bn b hb (sub b l)⟩
        cases q with
        | dead => trivial
        | lst ds =>
          obtain ⟨ws, q1, q2⟩ := rl.obj j b _ g1 (old j _ g2 (by intro z; cases z)).2
          exact ⟨ws, q1, DatL.evo rl E ds ws q2⟩
        | dK kvs =>
          obtain ⟨kv, q1, q2⟩ := rl.obj j b _ g1 (old j _ g2 (by intro z; cases z)).2
          exact ⟨kv, q1, q2.evo rl E⟩
        | dT kvs =>
          obtain ⟨kv, q1, q2⟩ := rl.obj j b _ g1 (old j _ g2 (by intro z; cases z)).2
          exact ⟨kv, q1, q2.evo rl E⟩
      have er' : EnvR H μ (Live B μ (S.set n .dead)) (putAt i (.d (.list xs)) ρ) σ := by
        have er1 := er.evo rl E
        refine ⟨by rw [er1.len]; simp [putAt], fun j w hw => ?_⟩
        unfold putAt at hw
        by_cases hj : i = j
        · subst hj
          rw [List.getElem?_set_self (List.getElem?_eq_some_iff.mp hn).1] at hw
          cases hw
          refine ⟨v, h1, ?_⟩
          show Dat H (Live B μ (S.set n .dead)) (.list xs) v
          simp only [Dat]
          exact ⟨a, vs, h3, h4, na, DatL.evo rl E xs vs h5⟩
        · rw [List.getElem?_set_ne hj] at hw
          exact er1.at_ j w hw
      exact qs _ σ B μ _ H D er' rl' (o.evo E)
theorem DS.set {i : Nat} {y : Str} {pos' : Pos} (nd : X.N.Nodup) (hi : X.N[i]? = some y) (hl : L2.Loc X.env.scope y) (he : DE G X Wx F L A c e) (hs : swapsWith e (some (.Name y pos')) pos.line X.env = pure false) (hf : X.fn y = true ∨ X.env.scope.names.lookup y = some .local) :
    DS Gc G X Wx F L A (.set i c) (.Assign [.Name y pos'] e pos) := by
  obtain ⟨t, ht, q⟩ := he
  refine ⟨_, ps_set nd hi hl ht hs hf, fun ρ σ B μ S H D er rl o => ?_⟩
  rw [ex] at o
  exact q ρ σ B μ S H _ er rl (OKS.bindE er rl o fun w S1 v μ1 H1 e1 r1 w1 o1 => oks_next o1 ((er.evo rl e1).put i w1) r1)
/-- y = [.. for ..] on one line -/
theorem DS.setLc {i : Nat} {y : Str} {py : Pos} {m : Bool} {it : C} {own : List (Str × Nat)} {tgt : Tg} {t : Option C} {elt iter : Expr} {ifs : List Expr} {scope : Scope} {lpos : Pos} (hc : X.calm = true) (nd : X.N.Nodup) (hy : X.N[i]? = some y) (hyl : X.env.scope.names.lookup y = some .local)
    (hsw : swapsWith (.ListComp elt [⟨tg, iter, ifs, 0⟩] scope lpos) (some (.Name y py)) pos.line X.env = pure true) (hI : DI G X Wx F L A it tg iter) (hok : BlkOk X.N X.env.scope scope own) (hin : tgIn tgt (own.map (·.2)))
    (hg : ∀ (s : Shared) (H : Hp) (C : Addr) (cl : List (Str × Addr)) (fp : List Addr), DG (X.blk s H scope (compEnvC scope cl C X.env) fp) tgt tg)
    (ht : ∀ (s : Shared) (H : Hp) (C : Addr) (cl : List (Str × Addr)) (fp : List Addr), DTs G (X.blk s H scope (compEnvC scope cl C X.env) fp) (fun _ _ _ _ => False) F L A t ifs)
    (he : ∀ (s : Shared) (H : Hp) (C : Addr) (cl : List (Str × Addr)) (fp : List Addr), DE G (X.blk s H scope (compEnvC scope cl C X.env) fp) (fun _ _ _ _ => False) F L A c elt)
    (hs : ∀ x, foldedSetIterable iter X.env x = pure x) : DS Gc G X Wx F L A (.set i (.comp m (own.map (·.2)) tgt it t c)) (.Assign [.Name y py] (.ListComp elt [⟨tg, iter, ifs, 0⟩] scope lpos) pos) := by
  obtain ⟨wi, hi, q⟩ := hI
  refine ⟨_, ps_setLc hc nd hy hyl hsw hi hok (fun s H C cl fp => (hg s H C cl fp).can) (fun s H C cl fp => (ht s H C cl fp).can) (fun s H C cl fp => (he s H C cl fp).can) hs, fun ρ σ B μ S H D er rl o => ?_⟩
  rw [ex] at o
  exact comp_red hin q er rl (OKS.bindE er rl o fun w S1 v μ1 H1 e1 r1 w1 o1 => oks_next o1 ((er.evo rl e1).put i w1) r1)
theorem DS.par {i j : Nat} {y z : Str} {px py pt pt2 : Pos} {kt k2 : Nat} (hc : X.calm = true) (nd : X.N.Nodup) (hi : X.N[i]? = some y) (hj : X.N[j]? = some z) (hij : i ≠ j) (hl : X.env.scope.names.lookup y = some .local) (hl2 : X.env.scope.names.lookup z = some .local) (ha : DA G X Wx F L A [a, b] [ea, eb])
    (hsw : swappedStores [.Tuple [.Name y px, .Name z py] kt pt] (.Tuple [ea, eb] k2 pt2) X.env = pure (some [y, z])) (hs : swapsWithSole [.Tuple [.Name y px, .Name z py] kt pt] (.Tuple [ea, eb] k2 pt2) pos.line X.env = pure false) :
    DS Gc G X Wx F L A (.par i j a b) (.Assign [.Tuple [.Name y px, .Name z py] kt pt] (.Tuple [ea, eb] k2 pt2) pos) := by
  obtain ⟨t, ht, q⟩ := ha
  refine ⟨_, ps_par hc nd hi hj hij hl hl2 ht hsw hs, fun ρ σ B μ S H D er rl o => ?_⟩
  rw [ex] at o
  refine q ρ σ B μ S H _ er rl ?_
  simp only [evs]
  cases h1 : ev F L A a ρ S with
  | stuck => rw [h1] at o; exact o
  | err c f S1 => rw [h1] at o; exact fun cls d μ1 H1 e1 r1 q => o cls d σ μ1 H1 e1 r1 (er.evo rl e1) q
  | ok w S1 =>
    rw [h1] at o
    simp only [R.st, R.bind] at o ⊢
    cases h2 : ev F L A b ρ S1 with
    | stuck => rw [h2] at o; exact o
    | err c f S2 => rw [h2] at o; exact fun cls d μ1 H1 e1 r1 q => o cls d σ μ1 H1 e1 r1 (er.evo rl e1) q
    | ok u S2 =>
      rw [h2] at o
      intro vs μ1 H1 e1 r1 w1
      obtain ⟨v, r, rfl, w2, v2, r2, rfl, w3, h3⟩ := w1
      have h3 : r2 = [] := h3
      subst h3
      exact ⟨v, v2, rfl, o _ μ1 H1 e1 r1 (((er.evo rl e1).put i w2).put j w3)⟩
/-- a, b, .. = a tuple -/
theorem DS.unp {is : List Nat} {es : List Expr} {n : Nat} {pt : Pos} (he : DE G X Wx F L A c e) (hg : DG X (.tup is) (.Tuple es n pt)) (h1 : swapsWithSole [.Tuple es n pt] e pos.line X.env = pure false) (h2 : swappedStores [.Tuple es n pt] e X.env = pure none)
    (h3 : (assignEach [.Tuple es n pt] X.env).map (·.2) = [assign (.Tuple es n pt) X.env]) : DS Gc G X Wx F L A (.unp is c) (.Assign [.Tuple es n pt] e pos) := by
  obtain ⟨t, ht, q⟩ := he
  obtain ⟨g, hg, qg⟩ := hg
  refine ⟨_, ps_asg ht hg h1 h2 h3, fun ρ σ B μ S H D er rl o => ?_⟩
  rw [ex] at o
  refine q ρ σ B μ S H _ er rl (OKS.bindE er rl o fun w S1 v μ1 H1 e1 r1 w1 o1 => ?_)
  unfold unpS at o1
  split at o1
  · rename_i xs
    split at o1
    · rename_i ρ1 hp
      exact qg (.tuple xs) v ρ ρ1 σ G.T B μ1 S1 H1 _ hp (er.evo rl e1) r1 w1 fun σ1 er1 _ => oks_next o1 er1 r1
    · exact o1.elim
  · exact o1.elim
theorem DS.ex_ (he : DE G X Wx F L A c e) (hs : swapsWith e none pos.line X.env = pure false) : DS Gc G X Wx F L A (.ex c) (.Expr e pos) := by
  obtain ⟨t, ht, q⟩ := he
  refine ⟨_, ps_expr ht hs, fun ρ σ B μ S H D er rl o => ?_⟩
  rw [ex] at o
  exact q ρ σ B μ S H _ er rl (OKS.bindE er rl o fun w S1 v μ1 H1 e1 r1 w1 o1 => oks_next o1 (er.evo rl e1) r1)
theorem DS.ret (he : DE G X Wx F L A c e) : DS Gc G X Wx F L A (.ret c) (.Return (some e) pos) := by
  obtain ⟨t, ht, q⟩ := he
  refine ⟨_, ps_ret ht, fun ρ σ B μ S H D er rl o => ?_⟩
  rw [ex] at o
  exact q ρ σ B μ S H _ er rl (OKS.bindE er rl o fun w S1 v μ1 H1 e1 r1 w1 o1 => o1 v μ1 H1 .refl r1 w1)
theorem DS.pass : DS Gc G X Wx F L A .pass (.Pass pos) := ⟨_, ps_pass, fun ρ σ B μ S H D er rl o => by
  rw [ex] at o
  exact oks_next o er rl⟩
theorem OKS.bindT {r : R W} {ρ : Ev} {σ : L2.St} {k : W → List O → SR} {B : Addr → Prop} {μ : List Addr} {S : List O} {H : Hp} {D : Ends} {P : Bool → Hp → Prop} (er : EnvR H μ (Live B μ S) ρ σ) (rl : Rel G.T B μ S H) (h : OKS G Wx B (r.st ρ k) μ S H D) (hn : ∀ w S1, (∀ b, w ≠ .d (.bool b)) → k w S1 = .stuck)
    (hk : ∀ w S1 μ1 H1, Evo μ S H μ1 S1 H1 → Rel G.T B μ1 S1 H1 → OKS G Wx B (k (.d (.bool w)) S1) μ1 S1 H1 D → P w H1) : OKT G B r μ S H (fun cls d H' => Wx cls d σ H') P := by
  cases r with
  | ok w S1 =>
    by_cases hw : ∃ b, w = .d (.bool b)
    · obtain ⟨b, rfl⟩ := hw
      exact fun μ1 H1 e1 r1 => hk b S1 μ1 H1 e1 r1 (OKS.evo (show OKS G Wx B (k (.d (.bool b)) S1) μ S H D from h) e1)
    · have q := hn w S1 fun b z => hw ⟨b, z⟩
      have h : OKS G Wx B (k w S1) μ S H D := h
      rw [q] at h
      exact h.elim
  | err c f S1 => exact fun cls d μ1 H1 e1 r1 q => h cls d σ μ1 H1 e1 r1 (er.evo rl e1) q
  | stuck => exact h
end
end Ci

end
section
set_option linter.all false
set_option autoImplicit false
set_option maxHeartbeats 1000000
namespace Ci
open PySem L2
variable [kI : HasK]

section
variable {T : List (Addr × Str)} {B : Addr → Prop} {μ : List Addr} {S : List O} {H : Hp}
theorem set_live {n : Nat} {o o' : O} (h2 : S[n]? = some o) (h3 : o ≠ .dead) (b : Addr) (l : LiveS μ (S.set n o') b) : LiveS μ S b := by
  obtain ⟨k, q, g1, g2, g3⟩ := l
  by_cases e : k = n
  · subst e
    exact ⟨k, o, g1, h2, h3⟩
  · rw [List.getElem?_set_ne (Ne.symm e)] at g2
    exact ⟨k, q, g1, g2, g3⟩
theorem Evo.write {n : Nat} {a : Addr} {o o' : O} {ob : HO} (R : Rel T B μ S H) (h1 : μ[n]? = some a) (h2 : S[n]? = some o) (h3 : o ≠ .dead) : Evo μ S H μ (S.set n o') (upd H a ob) := by
  have la : LiveS μ S a := ⟨n, o, h1, h2, h3⟩
  refine ⟨fun _ _ h => h, fun b u h nl nt => ?_, fun b l => .inl (set_live h2 h3 b l)⟩
  · rw [upd_ne (fun z => nl (by rw [z]; exact la))]
    exact h
theorem Rel.write {n : Nat} {a : Addr} {o o' : O} {ob : HO} (R : Rel T B μ S H) (h1 : μ[n]? = some a) (h2 : S[n]? = some o) (h3 : o ≠ .dead) (h4 : OR (upd H a ob) μ (Live B μ (S.set n o')) a o') : Rel T B μ (S.set n o') (upd H a ob) := by
  have la : LiveS μ S a := ⟨n, o, h1, h2, h3⟩
  have E : Evo μ S H μ (S.set n o') (upd H a ob) := .write R h1 h2 h3
  have hlt : n < S.length := (List.getElem?_eq_some_iff.mp h2).1
  have other : ∀ (k : Nat) (q : O), k ≠ n → (S.set n o')[k]? = some q → S[k]? = some q := fun k q hk hq => by
    rw [List.getElem?_set_ne (Ne.symm hk)] at hq
    exact hq
  refine ⟨by rw [List.length_set]; exact R.len, fun i j b oi oj g1 g2 g3 g4 d1 d2 => ?_, fun j b q g1 g2 => ?_, fun q hq => ?_, fun b hb => ?_, fun b hb l => R.bn b hb (set_live h2 h3 b l)⟩
  · by_cases e1 : i = n
    · by_cases e2 : j = n
      · rw [e1, e2]
      · subst e1
        exact R.inj i j b o oj g1 g2 h2 (other j oj e2 g4) h3 d2
    · by_cases e2 : j = n
      · subst e2
        exact R.inj i j b oi o g1 g2 (other i oi e1 g3) h2 d1 h3
      · exact R.inj i j b oi oj g1 g2 (other i oi e1 g3) (other j oj e2 g4) d1 d2
  · by_cases e : j = n
    · subst e
      rw [List.getElem?_set_self hlt] at g2
      cases g2
      rw [h1] at g1
      cases g1
      exact h4
    · have g3 := other j q e g2
      have ne : q ≠ .dead → b ≠ a := fun hq z => e (R.inj j n a q o (by rw [← z]; exact g1) h1 g3 h2 hq h3)
      have p := R.obj j b q g1 g3
      cases q with
      | lst ds => obtain ⟨ws, e1, d⟩ := p; exact ⟨ws, by rw [upd_ne (ne (by intro z; cases z))]; exact e1, DatL.evo R E ds ws d⟩
      | dK kvs => obtain ⟨kv, e1, d⟩ := p; exact ⟨kv, by rw [upd_ne (ne (by intro z; cases z))]; exact e1, d.evo R E⟩
      | dT kvs => obtain ⟨kv, e1, d⟩ := p; exact ⟨kv, by rw [upd_ne (ne (by intro z; cases z))]; exact e1, d.evo R E⟩
      | dead => trivial
  · obtain ⟨ps, q1, q2, q3⟩ := R.tabs q hq
    have keep : ∀ c (u : HO), (∀ ws, u ≠ .lst ws) → (∀ ws, u ≠ .dK ws) → (∀ ws, u ≠ .dT ws) → H c = some u → upd H a ob c = some u := fun c u n1 n2 n3 e => by
      rw [upd_ne (fun z => ?_)]
      · exact e
      · rw [z] at e
        rcases R.kind la with ⟨_, q⟩ | ⟨_, q⟩ | ⟨_, q⟩
        · rw [e] at q; exact n1 _ (Option.some.inj q)
        · rw [e] at q; exact n2 _ (Option.some.inj q)
        · rw [e] at q; exact n3 _ (Option.some.inj q)
    refine ⟨ps, keep _ _ (fun ws z => by cases z) (fun ws z => by cases z) (fun ws z => by cases z) q1, q2, fun pos cv hc => ?_⟩
    obtain ⟨c, e1, e2⟩ := q3 pos cv hc
    exact ⟨c, e1, keep _ _ (fun ws z => by unfold LamX.CodeO at z; cases z) (fun ws z => by unfold LamX.CodeO at z; cases z) (fun ws z => by unfold LamX.CodeO at z; cases z) e2⟩
  · obtain ⟨vs, q⟩ := R.bl b hb
    exact ⟨vs, by rw [upd_ne (fun z => R.bn b hb (by rw [z]; exact la))]; exact q⟩
/-- a list written -/
theorem Rel.writeL {n : Nat} {a : Addr} {ds ds' : List PyData} {vs' : List V} (R : Rel T B μ S H) (h1 : μ[n]? = some a) (h2 : S[n]? = some (.lst ds)) (d : DatL H (Live B μ S) ds' vs') : Rel T B μ (S.set n (.lst ds')) (upd H a (.lst vs')) :=
  R.write h1 h2 (by intro z; cases z) ⟨vs', upd_same, DatL.evo R (.write R h1 h2 (by intro z; cases z)) ds' vs' d⟩
end

section
variable {Gc : Cls} {G : Glob} {X : Cx} {Wx : WX} {F : FnT} {L : Nat → ActT → List O → R W} {A : ActT} {a b c d i : C} {ea eb ec ei e tg : Expr} {p pos tpos : Pos} {x : Str} {s : S} {ss su : List S} {st : Stmt} {sts stu : List Stmt}

theorem putIx_ok {ρ : Ev} {x y w : W} {S : List O} {B : Addr → Prop} {μ : List Addr} {H : Hp} {D : Ends} (o : OKS G Wx B (storeS ρ (putIx x y w S)) μ S H D) :
    ∃ n k p xs j, x = .ref n ∧ y = .d (.int k) ∧ w = .d p ∧ S[n]? = some (.lst xs) ∧ ixN xs.length k = some j ∧ storeS ρ (putIx x y w S) = .next ρ (S.set n (.lst (xs.set j p))) := by
  unfold putIx at o
  split at o
  · rename_i n k p
    split at o
    · rename_i xs hx
      split at o
      · rename_i j hj
        exact ⟨n, k, p, xs, j, rfl, rfl, rfl, hx, hj, by rw [show putIx (.ref n) (.d (.int k)) (.d p) S = some (S.set n (.lst (xs.set j p))) from by unfold putIx; simp only [hx]; rw [hj]]; rfl⟩
      · exact o.elim
    · exact o.elim
  · exact o.elim
theorem DS.sub (hv : DE G X Wx F L A c e) (ha : DE G X Wx F L A a ea) (hi : DE G X Wx F L A i ei) (h1 : swapsWithSole [.Subscript ea ei tpos] e pos.line X.env = pure false) (h2 : swappedStores [.Subscript ea ei tpos] e X.env = pure none)
    (h3 : (assignEach [.Subscript ea ei tpos] X.env).map (·.2) = [assign (.Subscript ea ei tpos) X.env])
    (h4 : ∀ (v : Value), assign (.Subscript ea ei tpos) X.env v = do
        let ov ← holding [v] (eval ea X.env)
        let iv ← holding [v, ov] (eval ei X.env)
        standAt tpos
        holding [v, ov, iv] (setItem ov iv v)
        release [v, ov, iv] []) : DS Gc G X Wx F L A (.sub a i c) (.Assign [.Subscript ea ei tpos] e pos) := by
  obtain ⟨t, ht, q⟩ := hv
  obtain ⟨ta, hta, qa⟩ := ha
  obtain ⟨ti, hti, qi⟩ := hi
  refine ⟨_, ps_asg ht (pg_sub hta hti set_list h4) h1 h2 h3, fun ρ σ B μ S H D er rl o => ?_⟩
  rw [ex] at o
  refine q ρ σ B μ S H _ er rl (OKS.bindE er rl o fun w S1 v μ1 H1 e1 r1 w1 o1 => ?_)
  have er1 := er.evo rl e1
  refine qa ρ σ B μ1 S1 H1 _ er1 r1 (OKS.bindE er1 r1 o1 fun x S2 u μ2 H2 e2 r2 w2 o2 => ?_)
  have er2 := er1.evo r1 e2
  refine qi ρ σ B μ2 S2 H2 _ er2 r2 (OKS.bindE er2 r2 o2 fun y S3 z μ3 H3 e3 r3 w3 o3 => ?_)
  obtain ⟨n, k, p, xs, j, rfl, rfl, rfl, hx, hj, eq⟩ := putIx_ok o3
  rw [eq] at o3
  obtain ⟨l, hl, hu⟩ := w2
  have ez := wr_int w3
  have hl3 := e3.pre _ _ hl
  obtain ⟨vs, q1, q2⟩ := r3.obj n l _ hl3 hx
  have dv : Dat H3 (Live B μ3 S3) p v := Dat.evo r2 e3 p v (Dat.evo r1 e2 p v w1)
  refine ⟨l, vs, k, j, hu, ez, q1, by rw [← q2.length]; exact hj, ?_⟩
  exact o3 σ μ3 _ (.write r3 hl3 hx (by intro z; cases z)) (r3.writeL hl3 hx (q2.set dv j)) ((er2.evo r2 e3).evo r3 (.write r3 hl3 hx (by intro z; cases z)))

theorem onS_bool {w : W} {x y : SR} (h : ∀ b, w ≠ .d (.bool b)) : onS w x y = .stuck := by
  unfold onS
  split
  · exact absurd rfl (h true)
  · exact absurd rfl (h false)
  · rfl
theorem DS.ite (ht : DT G X Wx F L A c e) (ha : DSs Gc G X Wx F L A ss sts) (hb : DSs Gc G X Wx F L A su stu) : DS Gc G X Wx F L A (.ite c ss su) (.If e sts stu pos) := by
  obtain ⟨t, ht, q⟩ := ht
  obtain ⟨ta, hta, qa⟩ := ha
  obtain ⟨tb, htb, qb⟩ := hb
  refine ⟨_, ps_if ht hta htb, fun ρ σ B μ S H D er rl o => ?_⟩
  rw [ex] at o
  refine q ρ σ B μ S H _ er rl (OKS.bindT er rl o (fun w S1 hw => onS_bool hw) fun w S1 μ1 H1 e1 r1 o1 => ?_)
  have er1 := er.evo rl e1
  cases w with
  | true => rw [if_pos rfl]; exact qa ρ σ B μ1 S1 H1 D er1 r1 o1
  | false => rw [if_neg Bool.false_ne_true]; exact qb ρ σ B μ1 S1 H1 D er1 r1 o1

theorem walkS_ok {w : W} {k : List PyData → SR} {B : Addr → Prop} {μ : List Addr} {S : List O} {H : Hp} {D : Ends} (o : OKS G Wx B (walkS w k) μ S H D) : ∃ xs, walkOf w = some xs ∧ walkS w k = k xs := by
  unfold walkS at o ⊢
  split at o
  · exact o.elim
  · rename_i xs hx
    exact ⟨xs, hx, rfl⟩
theorem DS.for_ {tgt : Tg} (hp : PassesOwn (model X.prog X.w) X.A X.env X.xe) (hc : X.calm = true) (hI : DI G X Wx F L A c tg e) (hg : DG X tgt tg) (hb : DSs Gc G X Wx F L A ss sts) (hs : ∀ x, foldedSetIterable e X.env x = pure x) : DS Gc G X Wx F L A (.for_ tgt c ss) (.For tg e sts [] pos) := by
  obtain ⟨wi, hi, q⟩ := hI
  obtain ⟨g, hg, qg⟩ := hg
  obtain ⟨tb, hb, qb⟩ := hb
  refine ⟨_, ps_for hp hc hi hg hb hs, fun ρ σ B μ S H D er rl o => ?_⟩
  rw [ex] at o
  refine q ρ σ B μ S H _ er rl ?_
  cases hw : ev F L A c ρ S with
  | stuck => rw [hw] at o; exact o
  | err k f S' => rw [hw] at o; exact fun cls d μ1 H1 e1 r1 z => o cls d σ μ1 H1 e1 r1 (er.evo rl e1) z
  | ok w S1 =>
    rw [hw] at o
    have o : OKS G Wx B (walkS w fun xs => forL (aim tgt) (fun ρ1 σ2 => exs Gc F L A ss ρ1 σ2) xs ρ S1) μ S H D := o
    obtain ⟨xs, hx, eq⟩ := walkS_ok o
    rw [eq] at o
    refine ⟨xs, hx, fun J μ1 H1 e1 r1 hW => ?_⟩
    have hW' := hW B fun a h => .inl h
    have er1 := er.evo rl e1
    refine ⟨fun i m σ' H' => m = xs.length - i ∧ i ≤ xs.length ∧ ∃ (ρ' : Ev) (μ' : List Addr) (S' : List O), Evo μ1 S1 H1 μ' S' H' ∧ Rel G.T B μ' S' H' ∧ EnvR H' μ' (Live B μ' S') ρ' σ' ∧ OKS G Wx B (forL (aim tgt) (fun ρ1 σ2 => exs Gc F L A ss ρ1 σ2) (xs.drop i) ρ' S') μ' S' H' D,
      ⟨xs.length, rfl, Nat.zero_le _, ρ, μ1, S1, .refl, r1, er1, o.evo e1⟩, ?_⟩
    rintro i m σ' H' ⟨rfl, hle, ρ', μ', S', e2, r2, er2, o2⟩
    obtain ⟨hgo, hst⟩ := hW' μ' S' H' e2
    by_cases hlt : i < xs.length
    · have hxi : xs[i]? = some xs[i] := List.getElem?_eq_getElem hlt
      obtain ⟨g1, g2⟩ := hgo i xs[i] hxi
      refine .inr ⟨g1, fun σ3 H3 => ∃ (ρ' : Ev) (μ' : List Addr) (S' : List O), Evo μ1 S1 H1 μ' S' H3 ∧ Rel G.T B μ' S' H3 ∧ EnvR H3 μ' (Live B μ' S') ρ' σ3 ∧ OKS G Wx B (forL (aim tgt) (fun ρ1 σ2 => exs Gc F L A ss ρ1 σ2) (xs.drop (i + 1)) ρ' S') μ' S' H3 D,
        fun σ3 H3 h => ⟨xs.length - (i + 1), by omega, rfl, hlt, h⟩, fun v H3 hy => ?_⟩
      obtain ⟨rfl, dv⟩ := g2 v H3 hy
      rw [List.drop_eq_getElem_cons hlt] at o2
      unfold forL at o2
      split at o2
      · exact o2.elim
      · rename_i ρ1 ha
        refine qg xs[i] v ρ' ρ1 σ' G.T B μ' S' H3 _ ha er2 r2 dv fun σ1 er3 _ => ?_
        refine qb ρ1 σ1 B μ' S' H3 _ er3 r2 ?_
        cases hex : exs Gc F L A ss ρ1 S' with
        | next ρ4 S4 =>
          rw [hex] at o2
          exact fun σ4 μ4 H4 e4 r4 er4 => ⟨ρ4, μ4, S4, e2.trans e4, r4, er4, OKS.evo (show OKS G Wx B (forL (aim tgt) (fun ρ1 σ2 => exs Gc F L A ss ρ1 σ2) (xs.drop (i + 1)) ρ4 S4) μ' S' H3 D from o2) e4⟩
        | ret w4 S4 => rw [hex] at o2; exact o2
        | err k f ρ4 S4 => rw [hex] at o2; exact o2
        | stuck => rw [hex] at o2; exact o2.elim
    · have hie : i = xs.length := by omega
      subst hie
      refine .inl ⟨hst, ?_⟩
      rw [List.drop_length] at o2
      unfold forL at o2
      exact oks_next o2 er2 r2

theorem DS.while_ (hp : PassesOwn (model X.prog X.w) X.A X.env X.xe) (ht : DT G X Wx F L A c e) (hb : DSs Gc G X Wx F L A ss sts) : DS Gc G X Wx F L A (.while_ c ss) (.While e sts [] pos) := by
  obtain ⟨t, ht, q⟩ := ht
  obtain ⟨tb, hb, qb⟩ := hb
  refine ⟨_, ps_while hp ht hb, fun ρ σ B μ S H D er rl o => ?_⟩
  rw [ex] at o
  refine ⟨fun m σ' H' => ∃ (ρ' : Ev) (μ' : List Addr) (S' : List O), Rel G.T B μ' S' H' ∧ EnvR H' μ' (Live B μ' S') ρ' σ' ∧ OKS G Wx B (whileL (fun ρ1 σ1 => ev F L A c ρ1 σ1) (fun ρ1 σ2 => exs Gc F L A ss ρ1 σ2) m ρ' S') μ' S' H' D, ⟨1000000, ρ, μ, S, rl, er, o⟩, ?_⟩
  rintro m σ' H' ⟨ρ', μ', S', r2, er2, o2⟩
  cases m with
  | zero => unfold whileL at o2; exact o2.elim
  | succ n =>
    unfold whileL at o2
    refine q ρ' σ' B μ' S' H' _ er2 r2 ?_
    cases hw : ev F L A c ρ' S' with
    | stuck => rw [hw] at o2; exact o2
    | err k f S3 => rw [hw] at o2; exact fun cls d μ1 H1 e1 r1 z => o2 cls d σ' μ1 H1 e1 r1 (er2.evo r2 e1) z
    | ok w S3 =>
      rw [hw] at o2
      by_cases hb' : ∃ b, w = .d (.bool b)
      · obtain ⟨b, rfl⟩ := hb'
        intro μ3 H3 e3 r3
        have er3 := er2.evo r2 e3
        cases b with
        | true =>
          rw [if_pos rfl]
          refine ⟨fun σ4 H4 => ∃ (ρ' : Ev) (μ' : List Addr) (S' : List O), Rel G.T B μ' S' H4 ∧ EnvR H4 μ' (Live B μ' S') ρ' σ4 ∧ OKS G Wx B (whileL (fun ρ1 σ1 => ev F L A c ρ1 σ1) (fun ρ1 σ2 => exs Gc F L A ss ρ1 σ2) n ρ' S') μ' S' H4 D, fun σ4 H4 h => ⟨n, Nat.lt_succ_self n, h⟩, ?_⟩
          refine qb ρ' σ' B μ3 S3 H3 _ er3 r3 ?_
          simp only [] at o2
          cases hex : exs Gc F L A ss ρ' S3 with
          | next ρ4 S4 =>
            rw [hex] at o2
            exact fun σ4 μ4 H4 e4 r4 er4 => ⟨ρ4, μ4, S4, r4, er4, OKS.evo (show OKS G Wx B (whileL (fun ρ1 σ1 => ev F L A c ρ1 σ1) (fun ρ1 σ2 => exs Gc F L A ss ρ1 σ2) n ρ4 S4) μ' S' H' D from o2) (e3.trans e4)⟩
          | ret w4 S4 => rw [hex] at o2; exact OKS.evo (G := G) (r := .ret w4 S4) o2 e3
          | err k f ρ4 S4 => rw [hex] at o2; exact OKS.evo (G := G) (r := .err k f ρ4 S4) o2 e3
          | stuck => rw [hex] at o2; exact o2.elim
        | false =>
          rw [if_neg Bool.false_ne_true]
          exact oks_next (OKS.evo (G := G) (Wx := Wx) (r := .next ρ' S3) o2 e3) er3 r3
      · exfalso
        revert o2
        show OKS G Wx B (match (R.ok w S3 : R W) with
          | .ok (.d (.bool true)) S1 => _
          | .ok (.d (.bool false)) S1 => _
          | .ok _ _ => _
          | .err c f S1 => _
          | .stuck => _) μ' S' H' D → False
        split
        · rename_i h; cases h; exact absurd ⟨true, rfl⟩ hb'
        · rename_i h; cases h; exact absurd ⟨false, rfl⟩ hb'
        · exact id
        · rename_i h; cases h
        · exact id
end
end Ci

end
section
set_option linter.all false
set_option autoImplicit false
set_option maxHeartbeats 1000000
namespace Ci
open PySem L2
variable [kI : HasK]

/-- def __init__(self, y): self.f = y -/
def spI (K : PySem.W.Frag) (f : Str) : Sp := fun vs H Q _ => ∃ (a C : Addr) (y : V), vs = [.ref a, y] ∧ OexC K C ∧ PySem.W.findIn K (.ref C) f = some none ∧ H a = some (exo a C none) ∧ ∀ dx, H dx = none → dx ≠ a → Q .non (upd (upd H dx (exd dx [(f, y)])) a (exo a C (some dx)))

section
variable {Gc : Cls} {G : Glob} {X : Cx} {Wx : WX} {F : FnT} {L : Nat → ActT → List O → R W} {A : ActT} {a b c d i : C} {ea eb ec ei e tg : Expr} {p pos cpos : Pos} {x : Str} {s : S} {ss su : List S} {st : Stmt} {sts stu : List Stmt}

theorem errS_ok {ci : Nat} {ρ : Ev} {w : W} {S : List O} {B : Addr → Prop} {μ : List Addr} {S0 : List O} {H : Hp} {D : Ends} (o : OKS G Wx B (errS ci ρ w S) μ S0 H D) : ∃ p, w = .d p := by
  unfold errS at o
  split at o
  · rename_i p
    exact ⟨p, rfl⟩
  · exact o.elim
theorem DS.raise {CX : CXT} {ci k : Nat} {C fI : Addr} {fd : FuncData} {ps : List Str} {f : Str} (hc : X.calm = true) (tk : Takes X Wx) (hA : G.clsA ci = C) (hF : G.fldN ci = some f) (T : OexC X.K C) (iC : PySem.W.findIn X.K (.ref C) "__init__" = some (some (.ref fI))) (nf : PySem.W.findIn X.K (.ref C) f = some none)
    (tI : PySem.W.typeIn X.K (.ref fI) = some (.type "function")) (F1 : FnOk X.prog X.w X.K X.mg X.base CX k fI fd ps (spI X.K f)) (hr : Room (k + 1) X.A) (hb : Binds X.K fd ps []) (hx : Passes CX X (fun _ _ _ => False)) (hg : Gl X x) (hm : X.mg x = some (.ref C)) (ha : DA G X Wx F L A [c] [e])
    (hdb : (x == ("__debug__" : Str)) = false) (he : starEach [e] X.env = (false, eval e X.env) :: starEach [] X.env) (hpl : (backTo cpos (starEach [] X.env)).any (·.1) = false) : DS Gc G X Wx F L A (.raise ci (some c)) (.Raise (some (.Call (.Name x p) [e] [] cpos)) none pos) := by
  obtain ⟨t, ht, q⟩ := ha
  refine ⟨_, ps_raise hc tk (pmk_oex T iC tI F1 hr hb .nil hx hg hm ht hdb he hpl), fun ρ σ B μ S H D er rl o => ?_⟩
  rw [ex] at o
  refine q ρ σ B μ S H _ er rl ?_
  simp only [evs]
  cases hw : ev F L A c ρ S with
  | stuck => rw [hw] at o; exact o
  | err k f S' => rw [hw] at o; exact fun cls d μ1 H1 e1 r1 z => o cls d σ μ1 H1 e1 r1 (er.evo rl e1) z
  | ok w S1 =>
    rw [hw] at o
    have o : OKS G Wx B (errS ci ρ w S1) μ S H D := o
    intro vs μ1 H1 e1 r1 w1
    obtain ⟨pd, rfl⟩ := errS_ok o
    have o : OKS G Wx B (.err ci pd ρ S1) μ S H D := o
    obtain ⟨v, t2, rfl, h1, h2⟩ := w1
    have h2 : t2 = [] := h2
    subst h2
    refine ⟨by show 1 ≤ 1000; omega, fun ax hax => ⟨ax, C, v, rfl, T, nf, upd_same, fun dx hdx hne => ⟨rfl, dx, [(f, v)], upd_same, ?_, ?_, ?_⟩⟩⟩
    · rw [upd_ne hne]
      exact upd_same
    · rw [upd_ne hne] at hdx
      exact hdx
    · have hd1 : H1 dx = none := by rw [upd_ne hne] at hdx; exact hdx
      have sm : Same H1 (upd (del (upd (upd (upd H1 ax (exo ax C none)) dx (exd dx [(f, v)])) ax (exo ax C (some dx))) ax) dx (.xd [(f, v)])) := fun b u hb => by
        have n1 : b ≠ dx := ne_of_none hb hd1
        have n2 : b ≠ ax := ne_of_none hb hax
        rw [upd_ne n1, del_ne n2, upd_ne n2, upd_ne n1, upd_ne n2]
        exact hb
      have E := Evo.ext (μ := μ1) (S := S1) sm
      refine o (.ref C) (some dx) σ μ1 _ (e1.trans E) (r1.ext sm) ((er.evo rl e1).evo r1 E) ⟨by rw [hA], ?_⟩
      rw [hF]
      exact ⟨dx, v, rfl, upd_same, Dat.evo r1 E pd v h1⟩
end
end Ci

end
section
set_option linter.all false
set_option autoImplicit false
set_option maxHeartbeats 1000000
set_option maxRecDepth 100000
namespace Ci
open PySem L2 PySem.Spec PyProof.Rows
variable [kI : HasK]

/-- the ends, slot i being empty behind -/
def endsOff (i : Nat) (D : Ends) : Ends := { nx := fun σ H => D.nx (σ.set i none) H, rt := D.rt, bk := fun σ H => D.bk (σ.set i none) H, ct := fun σ H => D.ct (σ.set i none) H }
/-- a clause's class, its name's slot, what its suite reads -/
abbrev ClR := Value × Nat × (Addr → Value → Option Addr → TS)
/-- one of the clauses takes the error -/
def wAsM (K : PySem.W.Frag) (D : Ends) : List ClR → WX
  | [] => fun _ _ _ _ => False
  | q :: r => fun cls d σ H => ∃ b, PySem.W.exmOne K cls q.1 = some b ∧ (b = true → ∀ a, H a = none → q.2.2 a cls d (endsOff q.2.1 D) (σ.set q.2.1 (some (.ref a))) H) ∧ (b = false → wAsM K D r cls d σ H)
inductive HdsA (X : Cx) : List ExceptHandler → List ClR → Prop
  | nil : HdsA X [] []
  | cons {x n : Str} {c : Value} {i : Nat} {ts : Addr → Value → Option Addr → TS} {fst : Stmt} {more : List Stmt} {p1 p2 : Pos} {hds : List ExceptHandler} {l : List ClR} (hc : Names X x c) (hi : X.N[i]? = some n) (hn : X.env.kindOf n = some .local)
      (go : ∀ (a : Addr) (o : Obj) (cls : Value) (d : Option Addr) (pn : List (Addr × Obj)), Zc cls d o → (∃ vs, o.data = .fields vs) → PSs (X.suite a ((a, o) :: pn)) (fst :: more) (ts a cls d)) (r : HdsA X hds l) :
      HdsA X (.ExceptHandler (some (.Name x p1)) (some n) (fst :: more) p2 :: hds) ((c, i, ts) :: l)

section
variable {X : Cx} {body : List Stmt} {h₁ : ExceptHandler} {hds : List ExceptHandler} {l : List ClR} {pos : Pos} {tb : WX → TS} {D : Ends}
theorem off_frames {B : Heap} {h : Heap} {a : Addr} {o : Obj} {vs : Array Value} {es : List Env} (ff : h.FunFrames B es) (e : h.get? a = some o) (dd : o.data = .fields vs) : a ∉ frs es := fun z => by
  obtain ⟨_, o2, e2, no⟩ := ff.mem z
  rw [e] at e2
  cases e2
  exact no _ dd
theorem hds_run {a : Addr} {B : Heap} {cls : Value} {d : Option Addr} {pins : List (Addr × Obj)} {σ : L2.St} {H : Hp} {sI s2 : Shared} (hs : X.stack = X.env :: X.outer) (hf : X.env.frame = some X.env.locals) (hN : X.N.Nodup)
    (J : L2.Inv X pins σ H sI) (nb : ∀ (b : Addr) (o : Obj), sI.heap.get? b = some o → ¬ b ∈ frs X.stack → B.get? b = some o) (up : sI.heap.UpToSlots s2.heap) (fl : HandSPX.FlyingZ B (X.env :: X.outer) a (Zc cls d) s2.heap) (na : H a = none) (os : s2.os = sI.os) (ag : AllBare s2.gens)
    (hk : HdsA X hds l) : wAsM X.K D l cls d σ H → wpAny (model X.prog X.w) X.A (handleBy (.ref a) X.env hds) (SP X pins D) X.xe s2 := by
  have J2 : L2.Inv X pins σ H s2 := J.landed nb fl.1 up os ag
  obtain ⟨oe, vs, ge, ze, de⟩ := fl.there
  have out := off_frames fl.2.2.1 ge de
  have n1 : a ≠ X.env.locals := fun z => out (List.mem_filterMap.mpr ⟨X.env, List.mem_cons_self, by rw [hf, z]⟩)
  have n2 : ¬ a ∈ X.fs := fun m => by
    obtain ⟨u, hu, q⟩ := List.mem_filterMap.mp m
    exact out (List.mem_filterMap.mpr ⟨u, List.mem_cons_of_mem _ hu, q⟩)
  have U := J2.suite ge de na n1 n2
  induction hk with
  | nil => exact fun z => z.elim
  | @cons x n c i ts fst more p1 p2 hds2 l2 hc hi hn go r ih =>
    rintro ⟨b, hm, yes, no⟩
    refine wpAny_handleBy_cons (codeAny_handlers_test ?_) (fun z => by cases z)
    have kind : PySem.W.Looks (model X.prog X.w) s2.heap (typeOf (.ref a)) cls := fun A Q E s k q => wpAny_typeOf_ref (k _ _ ge) (by rw [ze.1]; exact q)
    have fits := PySem.W.exm_one (M := model X.prog X.w) J2.kIn kind hm
    have named : ∀ {Q E : Value → Shared → Prop}, Q c s2 → wpAny (model X.prog X.w) (X.A.mark (some (.ref a))) (eval (.Name x p1) X.env) Q E s2 := fun {Q E} q => by
      obtain ⟨g1, g2, g3 | ⟨g3, g4, g5⟩⟩ := hc
      · exact ld_glob (X := X.suite a ((a, oe) :: (X.pn ++ pins))) U g1 g3 q g2
      · exact ld_blt (X := X.suite a ((a, oe) :: (X.pn ++ pins))) U g1 g3 g4 q g5 g2
    refine named (fits.here ?_)
    cases b with
    | false => exact ih (no rfl)
    | true =>
      refine codeAny_handlers_suite_as (HandSPX.lands_againZ fl fun h5 fl5 up5 => ?_)
      have J5 : L2.Inv X pins σ H { s2 with heap := h5 } := J.landed nb fl5.1 (up.trans up5) os ag
      obtain ⟨o5, v5, g5, z5, d5⟩ := fl5.there
      refine store_ok (X := X.suite a ((a, o5) :: (X.pn ++ pins))) (v := .ref a) (J5.suite g5 d5 na n1 n2) hN hi (.inl hn) rfl (fun s6 U6 => ?_) (.inr hn)
      refine wpAny_mono ((go a o5 cls d (X.pn ++ pins) z5 ⟨_, d5⟩).run [] s6 _ H _ U6 (yes rfl a na)) (fun f s7 h7 => ?_) (fun _ _ z => z.elim)
      have shut : ∀ {σ7 : L2.St} {H7 : Hp} {Q : Shared → Prop}, L2.Inv (X.suite a ((a, o5) :: (X.pn ++ pins))) [] σ7 H7 s7 → (∀ s8, L2.Inv X pins (σ7.set i none) H7 s8 → Q s8) →
          wpAny (model X.prog X.w) X.A (do bindName X.env n .none; unbindBehindTheSuite X.env n p2) (fun _ s8 => Q s8) X.xe s7 := fun U7 q => gone_ok (U7.unsuite J.ok) hN hi hn q
      cases f with
      | ret u =>
        obtain ⟨v, σ7, H7, U7, rv, q⟩ := h7
        exact shut U7 fun s8 I8 => ⟨v, _, _, I8, rv, q⟩
      | next => obtain ⟨σ7, H7, U7, q⟩ := h7; exact shut U7 fun s8 I8 => ⟨_, _, I8, q⟩
      | brk => obtain ⟨σ7, H7, U7, q⟩ := h7; exact shut U7 fun s8 I8 => ⟨_, _, I8, q⟩
      | cont => obtain ⟨σ7, H7, U7, q⟩ := h7; exact shut U7 fun s8 I8 => ⟨_, _, I8, q⟩
theorem ps_try_asM (hs : X.stack = X.env :: X.outer) (hf : X.env.frame = some X.env.locals) (hN : X.N.Nodup)
    (hb : ∀ (W : WX) (pn : List (Addr × Obj)) (xe : Value → Shared → Prop), Takes (X.tr pn xe) W → PassesOwn (model X.prog X.w) X.A X.env xe → PSs (X.tr pn xe) body (tb W)) (hk : HdsA X (h₁ :: hds) l) :
    PS X (.Try body (h₁ :: hds) [] [] pos) (fun D σ H => tb (wAsM X.K D l) D σ H) := by
  refine ⟨fun pins s σ H D I rd => ?_⟩
  have fr : X.A.frames = some (X.env :: X.outer) := by rw [I.ok.frames, hs]
  refine wpAny_Try_except ?_
  refine wpAny_mono ((hb (wAsM X.K D l) (X.pn ++ pins) _ (fun e s1 hx => ?_) PassesOwn.looking).run [] s σ H D (I.toTry _) rd) (fun f s1 hq => ?_) (fun e s1 hx => hx)
  · obtain ⟨a, B, sI, pins2, σ2, H2, cls, d, rfl, J, nb, up, sky, na, os, ag, w⟩ := hx
    have sky2 : Sky B (X.env :: X.outer) a (Zc cls d) X.env.locals s1.heap := by rw [← hs]; exact sky
    show wpAny (model X.prog X.w) X.A (noteFrame (.ref a) X.env) _ _ _
    refine Sky.land Zc.steady fr hf sky2 fun h3 fl up3 => ?_
    exact hds_run (s2 := { s1 with heap := h3 }) hs hf hN (J.ofTry I.ok) nb (up.trans up3) fl na os ag hk w
  · cases f with
    | ret u =>
      obtain ⟨v, σ2, H2, J, rv, q⟩ := hq
      exact ⟨v, σ2, H2, J.ofTry I.ok, rv, q⟩
    | next =>
      obtain ⟨σ2, H2, J, q⟩ := hq
      exact wpAny_execs_nil ⟨σ2, H2, J.ofTry I.ok, q⟩
    | brk => obtain ⟨σ2, H2, J, q⟩ := hq; exact ⟨σ2, H2, J.ofTry I.ok, q⟩
    | cont => obtain ⟨σ2, H2, J, q⟩ := hq; exact ⟨σ2, H2, J.ofTry I.ok, q⟩
end
end Ci

end
section
set_option linter.all false
set_option autoImplicit false
set_option maxHeartbeats 1000000
set_option maxRecDepth 100000
namespace Ci
open PySem L2 PySem.Spec PySem.W PySem.Calls PyProof.Rows
variable [kI : HasK]

section
variable {prog : Program} {w : World} {A : Around} {E : Value → Shared → Prop} {s : Shared} {K : Frag} {x D : Addr} {ox : Obj} {od : Option Obj}
theorem found_cls (C : ExcC K D) : findObj K D od "__class__" = some (.bind (.builtin "getset_descriptor.__get__") (.builtin "object.__class__")) := by
  obtain ⟨cd, q, _⟩ := any_some C.hd
  have q' : clsIn K D = some cd := q
  unfold findObj
  simp [q', C.ha, C.hn, C.ht]
theorem cls_of_exc {Q : Option Value → Shared → Prop} (C : ExcC K D) (Y : K.In s.heap) (J : InstAt s.heap x ox D od) (k : Q (some (.ref D)) { s with toks := s.toks + 1 }) : wpAny (model prog w) A (getAttr? (.ref x) "__class__") Q E s := by
  obtain ⟨hp, gs, dn, tk, os⟩ := s
  have T0 := J.type (M := model prog w)
  have T1 := looks_findIn (M := model prog w) Y C.hg
  have T2 := looks_findIn (M := model prog w) Y C.hk
  have T3 := looks_find (M := model prog w) Y J (found_cls (od := od) C)
  have isB : Looks (model prog w) hp (isInstance (.ref x) (.type "BaseException")) true := T0.andThen (looks_subIn Y C.hs)
  have c1 : (false && onTheHeap (.builtin "BaseException.__getattribute__")) = false := rfl
  have c2 : (Value.builtin "BaseException.__getattribute__" == .builtin "object.__getattribute__") = false := by decide +kernel
  have c3 : (onTheHeap (.ref D) && Value.builtin "BaseException.__getattribute__" == .builtin "object.__getattribute__") = false := by
    rw [c2]
    rfl
  unfold getAttr? getAttrBy? getAttrBy
  refine wpAny_bind (wpAny_mkText ?_)
  refine wpAny_bind (wpAny_attempt (wpAny_holding ?_))
  refine wpAny_bind (T0.at (wpAny_bind (T1.at ?_)))
  show wpAny _ _ (if (onTheHeap (.ref D) && Value.builtin "BaseException.__getattribute__" == .builtin "object.__getattribute__") = true then _ else _) _ _ _
  rw [c3, if_neg (by decide)]
  unfold getAttrByItsOwn hookBefore
  refine wpAny_bind ?_
  rw [if_pos (show onTheHeap (.ref D) = true from rfl)]
  refine T2.at ?_
  refine wpAny_bind (wpAny_attempt ?_)
  refine wpAny_holding ?_
  unfold callGetattribute
  rw [c1, if_neg (by decide)]
  unfold boundAndCalled
  rw [PySem.F.excAttr_ValueError.ga.bind (.ref x)]
  refine wpAny_bind ?_
  refine wpAny_pure ?_
  show wpAny _ _ (call (.builtin "BaseException.__getattribute__") [.ref x, .str "__class__" tk]) _ _ _
  refine wpAny_call ?_
  refine codeAny_call_builtin PySem.F.excAttr_ValueError.ga.plain PySem.F.entry_bexc_ga ?_
  refine check_slot (M := model prog w) (s := ⟨hp, gs, dn, tk + 1, os⟩) (i := "BaseException.__getattribute__") (owner := "BaseException") (n := "__getattribute__") (self := .ref x) (rest := [.str "__class__" tk]) (kw := []) (by decide +kernel) (by decide +kernel) isB (PySem.F.args_bexc_ga (.ref x) (.str "__class__" tk)) ?_
  unfold Builtin.«object.__getattribute__»
  refine wpAny_bind (wpAny_of_eq (a := ((Value.ref x : Value), [Value.str "__class__" tk])) (by first | rfl | (simp only [slotArgs]; rfl)) ?_)
  refine wpAny_bind (wpAny_pure ?_)
  refine wpAny_bind (T0.at (wpAny_bind (T3.at ?_)))
  show wpAny _ _ (holding [.builtin "object.__class__"] (call (.builtin "getset_descriptor.__get__") [.builtin "object.__class__", .ref x, .ref D]) >>= ret) _ _ _
  refine wpAny_bind (wpAny_holding (wpAny_call ?_))
  refine class_get (s := ⟨hp, gs, dn, tk + 1, os⟩) (ox := ox) (od := od) Y J C.hm ?_
  refine wpAny_pure ?_
  show wpAny _ _ (handedOut (.ref D)) _ _ _
  rw [handedOut_of (v := .ref D) rfl]
  first
    | exact wpAny_pure (wpAny_pure k)
    | exact wpAny_pure k
    | exact wpAny_pure (wpAny_bind (wpAny_pure (wpAny_pure k)))
theorem cls_no_tup (C : ExcC K D) {h : Heap} {o : Obj} (Y : K.In h) (e : h.get? D = some o) : ∃ c dd cd sl, o = ⟨c, dd, .cls cd, sl⟩ := by
  obtain ⟨cd, q, _⟩ := any_some C.hd
  have q : clsIn K D = some cd := q
  unfold clsIn at q
  split at q
  · rename_i c dd cd2 sl ho
    exact ⟨c, dd, cd2, sl, Option.some.inj (e.symm.trans (Y _ _ ho))⟩
  · cases q
theorem kit_exc (C : ExcC K D) : KitX K (.ref x) (.ref D) (fun h => ∃ od, InstAt h x ox D od) where
  ty := fun _ _ _ ⟨_, J⟩ => J.type
  it := fun _ h Y _ => by
    obtain ⟨cd, q, _⟩ := any_some C.hd
    have q : clsIn K D = some cd := q
    unfold clsIn at q
    split at q
    · rename_i c dd cd2 sl ho
      intro A2 Q2 E2 s2 kk z
      unfold isType loadHead
      exact wpAny_bind (wpAny_loadPart (kk _ _ (Y _ _ ho)) (wpAny_pure z))
    · cases q
  ne := fun h tp dd its n sl Y e => by
    apply Bool.eq_false_iff.mpr
    intro z
    have z := Value.ref.inj (beq_iff_eq.mp z)
    subst z
    obtain ⟨_, _, _, _, q⟩ := cls_no_tup C Y e
    cases q
  ca := fun Y ⟨_, J⟩ k => cls_of_exc C Y J k
end
end Ci

end
section
set_option linter.all false
set_option autoImplicit false
set_option maxHeartbeats 1000000
namespace Ci
open PySem L2
variable [kI : HasK]

/-- what the written part says of the classes -/
structure ClsOk (G : Glob) (Gc : Cls) (K : PySem.W.Frag) : Prop where
  ex : ∀ (c k : Nat) (b : Bool), Gc.sub c k = some b → PySem.W.exmOne K (.ref (G.clsA c)) (.ref (G.clsA k)) = some b
  is : ∀ (c k : Nat) (b : Bool), Gc.sub c k = some b → PySem.W.kitOne K (.ref (G.clsA c)) (.ref (G.clsA k)) = some b
  fl : ∀ c, Gc.hasF c = true → ∃ n, G.fldN c = some n

section
variable {Gc : Cls} {G : Glob} {X : Cx} {Wx : WX} {F : FnT} {L : Nat → ActT → List O → R W} {A : ActT} {a b c d i : C} {ea eb ec ei e tg : Expr} {p pos cpos : Pos} {x n : Str} {s : S} {ss su : List S} {st : Stmt} {sts stu : List Stmt}

/-- statements: a reading that hangs on no context -/
def TSC (Gc : Cls) (G : Glob) (F : FnT) (L : Nat → ActT → List O → R W) (A : ActT) (ss : List S) (Wx : WX) : TS := fun D σ H => ∃ (ρ : Ev) (B : Addr → Prop) (μ : List Addr) (S : List O), EnvR H μ (Live B μ S) ρ σ ∧ Rel G.T B μ S H ∧ OKS G Wx B (exs Gc F L A ss ρ S) μ S H D
theorem DSs.can (h : DSs Gc G X Wx F L A ss sts) : PSs X sts (TSC Gc G F L A ss Wx) := by
  obtain ⟨t, ht, q⟩ := h
  exact ⟨fun pins s σ H D I ⟨ρ, B, μ, S, er, rl, o⟩ => ht.run pins s σ H D I (q ρ σ B μ S H D er rl o)⟩

/-- isinstance of the caught error -/
def rIsX (a : Addr) (cls : Value) (d : Option Addr) (D : Addr) (cv : Value) (b : Bool) : List V → Hp → VK → Prop := fun xs H Q => ∃ c : V, xs = [.ref a, c] ∧ (∀ u, RelV c u → u = cv) ∧ cls = .ref D ∧ (d = none ∨ ∃ dd fs, d = some dd ∧ H dd = some (.xd fs)) ∧ Q (.bl b) H
theorem call_isX {cls : Value} {d : Option Addr} {D : Addr} {cv : Value} {b : Bool} {a : Addr} {oe : Obj} {pn : List (Addr × Obj)} (C : ExcC X.K D) (hk : PySem.W.kitOne X.K (.ref D) cv = some b) (hz : Zc cls d oe) (hf : ∃ vs, oe.data = .fields vs) : CallR (X.suite a ((a, oe) :: pn)) (.builtin "isinstance") (rIsX a cls d D cv b) := by
  rintro pins s σ H xs us Q I r ⟨c, rfl, hcv, rfl, hd, q⟩
  obtain ⟨u1, u2, rfl, r1, r2⟩ := r.two
  cases r1
  have ec := hcv _ r2
  subst ec
  obtain ⟨hget, _⟩ := I.pin (a, oe) (List.mem_append.mpr (.inl List.mem_cons_self))
  obtain ⟨vs, hv⟩ := hf
  have J : ∃ od, PySem.W.InstAt s.heap a oe D od := by
    obtain ⟨oc, od, oda, osl⟩ := oe
    obtain ⟨h1, h2⟩ := hz
    dsimp only at h1 h2 hv
    subst h1 h2 hv
    rcases hd with rfl | ⟨dd, fs, rfl, hx⟩
    · exact ⟨none, hget, rfl, rfl, trivial⟩
    · obtain ⟨mA, ⟨o, es, ep, e, _⟩, _⟩ := I.hok dd _ hx
      exact ⟨some o, hget, rfl, rfl, e⟩
  exact PySem.W.kia_one (kit_exc C) I.kIn J hk (fun z => nomatch z) fun tk => ⟨.bl b, H, I.kept (t' := tk) fun _ _ z => z, rfl, q⟩

/-- an item of a suite's tuple; ie: the slot of the error's name, ci: its class -/
def DH (Gc : Cls) (G : Glob) (X : Cx) (ie ci : Nat) (h : HI) (e : Expr) : Prop := ∃ t : Addr → Value → Option Addr → TE, (∀ (a : Addr) (oe : Obj) (cls : Value) (d : Option Addr) (pn : List (Addr × Obj)), Zc cls d oe → (∃ vs, oe.data = .fields vs) → PE (X.suite a ((a, oe) :: pn)) e (t a cls d)) ∧
  ∀ (a : Addr) (d : Option Addr) (σ : L2.St) (B : Addr → Prop) (μ : List Addr) (S : List O) (H : Hp) (f p : PyData) (Q : VK), σ[ie]? = some (some (.ref a)) → Rel G.T B μ S H → ErrR G H (Live B μ S) ci f (.ref (G.clsA ci)) d → itemOf Gc ci f h = some p → (∀ v, Dat H (Live B μ S) p v → Q v H) → t a (.ref (G.clsA ci)) d σ H Q
theorem DH.txt {ie ci : Nat} {z : Str} {j : Nat} : DH Gc G X ie ci (.txt z) (.Constant (.str z) j pos) := ⟨fun _ _ _ => _, fun a oe cls d pn _ _ => pe_str, fun a d σ B μ S H f p Q _ _ _ hp q => by
  have hp : some (PyData.str z) = some p := hp
  cases hp
  exact q _ (by simp only [Dat])⟩
theorem DH.fld {ie ci : Nat} {f : Str} {apos : Pos} (T : XfC X.K (G.clsA ci)) (nf : PySem.W.findIn X.K (.ref (G.clsA ci)) f = some none) (hF : G.fldN ci = some f) (hN : X.N[ie]? = some n) (hv : Vis X.env.scope n) (hd : (n == ("__debug__" : Str)) = false) (hcd : (n == ("__classdict__" : Str)) = false)
    (hat : attributeBase (.Name n pos) f X.env (eval (.Name n pos) X.env) = eval (.Name n pos) X.env) : DH Gc G X ie ci .fld (.Attribute (.Name n pos) f apos) := by
  refine ⟨fun a cls d => _, fun a oe cls d pn hz hf => pe_xf T nf hz hf (pe_var (X := X.suite a ((a, oe) :: pn)) hN hv hd hcd) hat, fun a d σ B μ S H g p Q hσ rl er hp q => ?_⟩
  have hp : (if Gc.hasF ci = true then some g else none) = some p := hp
  split at hp
  · cases hp
    obtain ⟨_, er⟩ := er
    rw [hF] at er
    obtain ⟨dd, v, rfl, hx, dv⟩ := er
    refine ⟨.ref a, hσ, rfl, rfl, dd, [(f, v)], v, rfl, hx, ?_, q v dv⟩
    simp [List.lookup]
  · cases hp
theorem DH.isc {ie ci k : Nat} {y : Str} {p2 p3 : Pos} (hC : ClsOk G Gc X.K) (hE : ExcC X.K (G.clsA ci)) (hN : X.N[ie]? = some n) (hv : Vis X.env.scope n) (hd : (n == ("__debug__" : Str)) = false) (hcd : (n == ("__classdict__" : Str)) = false) (hg : Gl X "isinstance") (hm : X.mg "isinstance" = Option.none)
    (hgy : Gl X y) (hmy : X.mg y = some (.ref (G.clsA k))) (hdy : (y == ("__debug__" : Str)) = false) (hs : ∃ b, Gc.sub ci k = some b) (he : starEach [.Name n p2, .Name y p3] X.env = (false, eval (.Name n p2) X.env) :: starEach [.Name y p3] X.env) (he2 : starEach [.Name y p3] X.env = (false, eval (.Name y p3) X.env) :: starEach [] X.env)
    (hpl : (backTo pos (starEach [.Name y p3] X.env)).any (·.1) = false) : DH Gc G X ie ci (.isc k) (.Call (.Name "isinstance" p) [.Name n p2, .Name y p3] [] pos) := by
  obtain ⟨b, hb⟩ := hs
  refine ⟨fun a cls d => _, fun a oe cls d pn hz hf => pe_callB (X := X.suite a ((a, oe) :: pn)) (call_isX hE (hC.is ci k b hb) hz hf) hg hm (by decide +kernel)
    (pa_cons (pe_var (X := X.suite a ((a, oe) :: pn)) hN hv hd hcd) (pa_cons (pe_glob (X := X.suite a ((a, oe) :: pn)) (v := .ref (G.clsA k)) hgy hmy rfl hdy) pa_nil he2) he) (by decide) (by decide) he hpl, fun a d σ B μ S H g p Q hσ rl er hp q => ?_⟩
  have hp : (Gc.sub ci k).map .bool = some p := hp
  rw [hb] at hp
  cases hp
  refine ⟨.ref a, hσ, .ref (G.clsA k), rfl, fun u h => h, rfl, ?_, q _ (by simp only [Dat])⟩
  obtain ⟨_, er⟩ := er
  cases hF : G.fldN ci with
  | none => rw [hF] at er; exact .inl er
  | some m =>
    rw [hF] at er
    obtain ⟨dd, v, rfl, hx, _⟩ := er
    exact .inr ⟨dd, _, rfl, hx⟩
def DHs (Gc : Cls) (G : Glob) (X : Cx) (ie ci : Nat) (h : List HI) (e : List Expr) : Prop := ∃ t : Addr → Value → Option Addr → TA, (∀ (a : Addr) (oe : Obj) (cls : Value) (d : Option Addr) (pn : List (Addr × Obj)), Zc cls d oe → (∃ vs, oe.data = .fields vs) → PA (X.suite a ((a, oe) :: pn)) e (t a cls d)) ∧
  ∀ (a : Addr) (d : Option Addr) (σ : L2.St) (B : Addr → Prop) (μ : List Addr) (S : List O) (H : Hp) (f : PyData) (p : List PyData) (Q : List V → Hp → Prop), σ[ie]? = some (some (.ref a)) → Rel G.T B μ S H → ErrR G H (Live B μ S) ci f (.ref (G.clsA ci)) d → itemsD Gc ci f h = some p → (∀ v, DatL H (Live B μ S) p v → Q v H) → t a (.ref (G.clsA ci)) d σ H Q
theorem DHs.nil {ie ci : Nat} : DHs Gc G X ie ci [] [] := ⟨fun _ _ _ => _, fun a oe cls d pn _ _ => pa_nil, fun a d σ B μ S H f p Q _ _ _ hp q => by
  have hp : some [] = some p := hp
  cases hp
  exact q _ DatL.nil⟩
theorem DHs.cons {ie ci : Nat} {h : HI} {hs : List HI} {es : List Expr} (hh : DH Gc G X ie ci h e) (hr : DHs Gc G X ie ci hs es) (he : starEach (e :: es) X.env = (false, eval e X.env) :: starEach es X.env) : DHs Gc G X ie ci (h :: hs) (e :: es) := by
  obtain ⟨t, ht, q⟩ := hh
  obtain ⟨u, hu, r⟩ := hr
  refine ⟨fun a cls d => _, fun a oe cls d pn hz hf => pa_cons (ht a oe cls d pn hz hf) (hu a oe cls d pn hz hf) he, fun a d σ B μ S H f p Q hσ rl er hp k => ?_⟩
  unfold itemsD at hp
  split at hp
  · rename_i x xs h1 h2
    cases hp
    refine q a d σ B μ S H f x _ hσ rl er h1 fun v dv => ?_
    refine r a d σ B μ S H f xs _ hσ rl er h2 fun vs dvs => k (v :: vs) ?_
    simp only [DatL]
    exact ⟨v, vs, rfl, dv, dvs⟩
  · cases hp

/-- the clauses -/
def DHds (Gc : Cls) (G : Glob) (X : Cx) (Wx : WX) (hs : List Hd) (hds : List ExceptHandler) : Prop := ∃ l : List ClR, HdsA X hds l ∧ ∀ (D : Ends) (c : Nat) (f : PyData) (ρ : Ev) (σ : L2.St) (B : Addr → Prop) (μ : List Addr) (S : List O) (H : Hp) (d : Option Addr),
  EnvR H μ (Live B μ S) ρ σ → Rel G.T B μ S H → ErrR G H (Live B μ S) c f (.ref (G.clsA c)) d → OKS G Wx B (catch_ Gc c f ρ S hs) μ S H D → wAsM X.K D l (.ref (G.clsA c)) d σ H
theorem DHds.nil : DHds Gc G X Wx [] [] := ⟨[], .nil, fun D c f ρ σ B μ S H d _ _ _ o => o.elim⟩
theorem suiteS_ok {h : Hd} {ρ : Ev} {S : List O} {xs : Option (List PyData)} {B : Addr → Prop} {μ : List Addr} {H : Hp} {D : Ends} (o : OKS G Wx B (suiteS h ρ S xs) μ S H D) : ∃ ys i, xs = some ys ∧ h.to = some i ∧ i < ρ.length ∧ h.nm < ρ.length ∧ i ≠ h.nm ∧ ys.length ≤ 1000 ∧ suiteS h ρ S xs = .next ((putAt i (.d (.tuple ys)) ρ).set h.nm none) S := by
  unfold suiteS at o ⊢
  split at o
  · rename_i ys i h2
    split at o
    · rename_i hh
      exact ⟨ys, i, rfl, h2, hh.1, hh.2.1, hh.2.2.1, hh.2.2.2, if_pos hh⟩
    · exact o.elim
  · exact o.elim
theorem EnvR.off {H : Hp} {μ : List Addr} {Lv : Addr → Prop} {ρ : Ev} {σ : L2.St} (h : EnvR H μ Lv ρ σ) (i : Nat) (v : Option V) : EnvR H μ Lv (ρ.set i none) (σ.set i v) := by
  refine ⟨by simp [h.len], fun j u e => ?_⟩
  by_cases hj : i = j
  · subst hj
    by_cases hl : i < ρ.length
    · rw [List.getElem?_set_self hl] at e; cases e
    · rw [List.getElem?_eq_none (by simpa using Nat.le_of_not_lt hl)] at e; cases e
  · rw [List.getElem?_set_ne hj] at e
    obtain ⟨v', h1, h2⟩ := h.at_ j u e
    exact ⟨v', by rw [List.getElem?_set_ne hj]; exact h1, h2⟩
theorem DHds.cons {h : Hd} {hs : List Hd} {es : List Expr} {y : Str} {i m : Nat} {p1 p2 p3 p4 tp : Pos} {hds : List ExceptHandler} (hC : ClsOk G Gc X.K) (hh : DHs Gc G X h.nm h.cls h.items es) (hr : DHds Gc G X Wx hs hds) (hc : Names X x (.ref (G.clsA h.cls))) (hN : X.N[h.nm]? = some n) (hn : X.env.kindOf n = some .local)
    (nd : X.N.Nodup) (hto : h.to = some i) (hi : X.N[i]? = some y) (hl : L2.Loc X.env.scope y) (hsw : swapsWith (.Tuple es m tp) (some (.Name y p3)) p4.line X.env = pure false) (hfn : X.fn y = true ∨ X.env.scope.names.lookup y = some .local) :
    DHds Gc G X Wx (h :: hs) (.ExceptHandler (some (.Name x p1)) (some n) [.Assign [.Name y p3] (.Tuple es m tp) p4] p2 :: hds) := by
  obtain ⟨t, ht, q⟩ := hh
  obtain ⟨l, hl', r⟩ := hr
  refine ⟨_, HdsA.cons (ts := fun a cls d => _) hc hN hn (fun a o cls d pn hz hf => pss_cons (ps_set (X := X.suite a ((a, o) :: pn)) nd hi hl (pe_tup (ht a o cls d pn hz hf)) hsw hfn) pss_nil) hl', fun D c f ρ σ B μ S H d er rl ee o => ?_⟩
  unfold catch_ at o
  split at o
  · rename_i hsub
    refine ⟨true, hC.ex c h.cls true hsub, ⟨fun _ a na => ?_, fun z => absurd z.symm Bool.false_ne_true⟩⟩
    split at o
    · rename_i hcc
      subst hcc
      obtain ⟨ys, i', h1, h2, h3, h4, h5, h6, eq⟩ := suiteS_ok o
      rw [eq] at o
      rw [hto] at h2
      cases h2
      have hlen : h.nm < σ.length := by rw [er.len]; exact h4
      refine q a d _ B μ S H f ys _ (List.getElem?_set_self hlen) rl ee h1 fun vs dv => ?_
      refine ⟨by rw [← dv.length]; have : sizeLine = 16777216 := by decide
                 omega, fun pt hpt => ?_⟩
      have E : Evo μ S H μ S (upd H pt (.tup vs)) := .ext (same_upd hpt)
      have r2 := rl.ext (same_upd (o := .tup vs) hpt)
      show D.nx (((σ.set h.nm (some (.ref a))).set i (some (.ref pt))).set h.nm none) _
      rw [List.set_comm _ _ h5.symm, List.set_set]
      refine o _ μ _ E r2 ?_
      have er2 := er.evo rl E
      have z := (er2.put i (w := .d (.tuple ys)) (tup_new rl hpt dv)).off h.nm none
      exact z
    · exact o.elim
  · rename_i hsub
    exact ⟨false, hC.ex c h.cls false hsub, ⟨fun z => absurd z Bool.false_ne_true, fun _ => r D c f ρ σ B μ S H d er rl ee o⟩⟩
  · exact o.elim
theorem DS.try_ {hs : List Hd} {h₁ : ExceptHandler} {hds : List ExceptHandler} (hst : X.stack = X.env :: X.outer) (hf : X.env.frame = some X.env.locals) (nd : X.N.Nodup)
    (hb : ∀ (W : WX) (pn : List (Addr × Obj)) (xe : Value → Shared → Prop), Takes (X.tr pn xe) W → PassesOwn (model X.prog X.w) X.A X.env xe → DSs Gc G (X.tr pn xe) W F L A ss sts) (hh : DHds Gc G X Wx hs (h₁ :: hds)) :
    DS Gc G X Wx F L A (.try_ ss hs) (.Try sts (h₁ :: hds) [] [] pos) := by
  obtain ⟨l, hl, q⟩ := hh
  refine ⟨_, ps_try_asM hst hf nd (tb := TSC Gc G F L A ss) (fun W pn xe tk po => (hb W pn xe tk po).can) hl, fun ρ σ B μ S H D er rl o => ?_⟩
  rw [ex] at o
  refine ⟨ρ, B, μ, S, er, rl, ?_⟩
  cases hx : exs Gc F L A ss ρ S with
  | next ρ1 S1 => rw [hx] at o; exact o
  | ret w S1 => rw [hx] at o; exact o
  | stuck => rw [hx] at o; exact o
  | err c f ρ1 S1 =>
    rw [hx] at o
    intro cls d σ1 μ1 H1 e1 r1 er1 ee
    have ec : cls = .ref (G.clsA c) := ee.1
    subst ec
    exact q D c f ρ1 σ1 B μ1 S1 H1 d er1 r1 ee (OKS.evo (show OKS G Wx B (catch_ Gc c f ρ1 S1 hs) μ S H D from o) e1)
end
end Ci

end
section
set_option linter.all false
set_option autoImplicit false
set_option maxHeartbeats 1000000
namespace Ci
open PySem L2
variable [kI : HasK]

theorem Evo.extN {μ : List Addr} {S : List O} {H H1 : Hp} (e : LamX.ExtN H H1) : Evo μ S H μ S H1 := ⟨fun _ _ h => h, fun a o h _ nt => e a o h nt, fun _ h => .inl h⟩
theorem Rel.extN {T : List (Addr × Str)} {B : Addr → Prop} {μ : List Addr} {S : List O} {H H1 : Hp} (R : Rel T B μ S H) (e : LamX.ExtN H H1) (t : LamX.Tabs T H1) : Rel T B μ S H1 := by
  have E : Evo μ S H μ S H1 := .extN e
  refine ⟨R.len, R.inj, fun i a o h1 h2 => ?_, t, fun a h => by obtain ⟨vs, q⟩ := R.bl a h; exact ⟨vs, e _ _ q (fun ps z => by cases z)⟩, R.bn⟩
  have q := R.obj i a o h1 h2
  cases o with
  | lst ds => obtain ⟨vs, e1, d⟩ := q; exact ⟨vs, e _ _ e1 (fun ps z => by cases z), DatL.evo R E ds vs d⟩
  | dK kvs => obtain ⟨kv, e1, d⟩ := q; exact ⟨kv, e _ _ e1 (fun ps z => by cases z), d.evo R E⟩
  | dT kvs => obtain ⟨kv, e1, d⟩ := q; exact ⟨kv, e _ _ e1 (fun ps z => by cases z), d.evo R E⟩
  | dead => trivial

abbrev LamT := Nat → ActT → List O → R W
def noL : LamT := fun _ _ _ => .stuck
def noA : ActT := fun _ => .stuck
/-- what the def makes of the lambda's reading -/
def TTa (G : Glob) (r : ActT → List O → R W) : (XK → Hp → VK → Prop) → Hp → VK → Prop := fun tl H Q => ∃ (A : ActT) (B : Addr → Prop) (μ : List Addr) (S : List O), Rel G.T B μ S H ∧ (∀ E Q', OKE G B (A S) μ S H E Q' → tl E H Q') ∧ OKE G B (r A S) μ S H (fun _ _ _ => False) Q

section
variable {Gc : Cls} {G : Glob} {X : Cx} {Wx : WX} {F : FnT} {L : LamT} {A : ActT} {a b c d i : C} {ea eb ec ei e tg : Expr} {p pos cpos : Pos} {s : S} {ss su : List S} {st : Stmt} {sts stu : List Stmt}

/-- x(lambda: body), x the number fi -/
theorem DE.lam {fi : Nat} {x a : Str} {g cc P : Addr} {k : Nat} {pg : Arguments} {bg : List Stmt} {sg : Scope} {dV kV doc pm cdv ct oc : Value} {an od : Option Addr} {osl : Array (Option Value)} {Ng : List Str}
    {params : Arguments} {body : Expr} {scope : Scope} {lpos : Pos} {r : ActT → List O → R W} (hr0 : ∀ A S, L fi A S = r A S) (hne : ∀ A S c f S', r A S ≠ .err c f S') (hg : Gl X x) (hm : X.mg x = some (.ref g)) (hk : PySem.W.keepIn X.K (.ref g) = true)
    (lk : X.K.lookup g = some ⟨oc, od, .func (PySem.W.fnOf x x pg bg sg dV kV doc pm an cdv ct), osl⟩) (hcg : PySem.W.codeIn X.K cdv x = true) (hb : L2.Binds X.K (PySem.W.fnOf x x pg bg sg dV kV doc pm an cdv ct) [a] []) (Sg : FnScope Ng [a] sg) (hNg : Ng[0]? = some a) (hva : Vis sg a)
    (hG : LamX.GivesTo X Ng x sg g cdv bg a (X.env.qual ++ "<lambda>") (TTa G r))
    (TB : LamX.TabB X.base X.mg cc P) (hcode : X.env.code = .ref cc) (hmT : (P, X.env.qual ++ "<lambda>") ∈ G.T) (hu : ∀ p ∈ G.T, p.1 = P → p.2 = X.env.qual ++ "<lambda>") (hr : Room (k + 2) X.A) (Ls : LamX.LamS X.env.scope scope) (hdef : defaultsOf params X.env = ([], []))
    (hbind : ∀ (q : Str) (cl : List (Str × Addr)) (pm cv ctv : Value), bindArgs (PySem.W.kla_fn "<lambda>" q params body scope cl pm cv ctv) ⟨[], []⟩ = pure [])
    (hbody : ∀ (A : Around) (outer : List Env) (s : Shared) (H : Hp) (E : XK) (f c' : Addr), Room k (A.deeper (LamX.lamEnv X scope s.heap.objs.size f c')) → DE G (LamX.lamCx X A outer s H E scope f c') (fun cls d _ H => E cls d H) F noL noA b body)
    (hdb : (x == ("__debug__" : Str)) = false) (hd : (a == ("__debug__" : Str)) = false) (hcd : (a == ("__classdict__" : Str)) = false) :
    DE G X Wx F L A (.lam fi b) (.Call (.Name x p) [.Lambda params body scope lpos] [] pos) := by
  refine ⟨_, LamX.pe_lamcall (T := G.T) hg hm hk lk hcg hb Sg hNg hva hG TB hcode hmT hu hr Ls hdef hbind (fun A outer s H E f c' hr => (hbody A outer s H E f c' hr).can) hdb hd hcd, fun ρ σ B μ S H Q er rl o => ?_⟩
  refine ⟨rl.tabs, fun H1 eN t1 => ?_⟩
  have E : Evo μ S H μ S H1 := .extN eN
  have r1 := rl.extN eN t1
  have er1 := er.evo rl E
  rw [ev] at o
  rw [hr0] at o
  refine ⟨fun S1 => ev F noL noA b ρ S1, B, μ, S, r1, fun E' Q' o' => ⟨ρ, B, μ, S, er1, r1, o'⟩, ?_⟩
  have o1 := OKE.evo o E
  change OKE G B (r (fun S1 => ev F noL noA b ρ S1) S) μ S H1 _ Q at o1
  cases hx : r (fun S1 => ev F noL noA b ρ S1) S with
  | ok w S1 => rw [hx] at o1; exact o1
  | err c f S1 => exact absurd hx (hne _ _ _ _ _)
  | stuck => rw [hx] at o1; exact o1

/-- the def's side: it is entered at H, the lambda is in slot 0 -/
structure Act0 (G : Glob) (Z : Cx) (A : ActT) (f c' : Addr) (q a : Str) (tl : XK → Hp → VK → Prop) (B : Addr → Prop) (μ : List Addr) (S : List O) (H : Hp) : Prop where
  rl : Rel G.T B μ S H
  co : H c' = some (LamX.CodeO c' q)
  ac : ∀ E Q', OKE G B (A S) μ S H E Q' → tl E H Q'
  act : ∀ (W : WX) (pn : List (Addr × Obj)) (xe : Value → Shared → Prop) (E : XK) (p1 p2 : Pos), Takes (Z.tr pn xe) W → (∀ cls d σ' H', E cls d H' → W cls d σ' H') → PE (Z.tr pn xe) (.Call (.Name a p1) [] [] p2) (fun σZ HZ Q => σZ[0]? = some (some (.ref f)) ∧ HZ c' = some (LamX.CodeO c' q) ∧ tl E HZ Q)

def ρ0 (n : Nat) : Ev := List.replicate n none
theorem env0 {H : Hp} {μ : List Addr} {Lv : Addr → Prop} {n : Nat} {σ : L2.St} (h : σ.length = n) : EnvR H μ Lv (ρ0 n) σ := ⟨by rw [h]; simp [ρ0], fun i w e => by
  unfold ρ0 at e
  rw [List.getElem?_replicate] at e
  split at e <;> cases e⟩

def DE0 (G : Glob) (Z : Cx) (pn : List (Addr × Obj)) (xe : Value → Shared → Prop) (W0 : WX) (F : FnT) (A : ActT) (f : Addr) (B : Addr → Prop) (μ : List Addr) (S : List O) (H : Hp) (c : C) (e : Expr) : Prop := ∃ t : TE, PE (Z.tr pn xe) e t ∧ ∀ (σ : L2.St) (Q : VK), σ.length = Z.N.length → σ[0]? = some (some (.ref f)) →
  OKE G B (ev F noL A c (ρ0 Z.N.length) S) μ S H (fun cls d H' => ∀ σ' : L2.St, σ'.length = Z.N.length → W0 cls d σ' H') Q → t σ H Q
theorem takes_len {Y : Cx} {W0 : WX} (tk : Takes Y W0) : Takes Y (fun cls d σ H => σ.length = Y.N.length → W0 cls d σ H) := fun u s' ⟨a, Bh, sI, pins, σ, H, cls, d, h1, I, h2, h3, h4, h5, h6, h7, w⟩ => tk u s' ⟨a, Bh, sI, pins, σ, H, cls, d, h1, I, h2, h3, h4, h5, h6, h7, w I.len⟩
theorem DE0.act {Z : Cx} {pn : List (Addr × Obj)} {xe : Value → Shared → Prop} {W0 : WX} {f c' : Addr} {q a : Str} {tl : XK → Hp → VK → Prop} {B : Addr → Prop} {μ : List Addr} {S : List O} {H : Hp} {p1 p2 : Pos} (h : Act0 G Z A f c' q a tl B μ S H) (tk : Takes (Z.tr pn xe) W0) :
    DE0 G Z pn xe W0 F A f B μ S H .act (.Call (.Name a p1) [] [] p2) := by
  refine ⟨_, h.act _ pn xe (fun cls d H' => ∀ σ' : L2.St, σ'.length = Z.N.length → W0 cls d σ' H') p1 p2 (takes_len tk) (fun cls d σ' H' z l => z σ' l), fun σ Q hl h0 o => ?_⟩
  rw [ev] at o
  exact ⟨h0, h.co, h.ac _ Q o⟩
/-- (constant, c) -/
theorem DE0.tup {Z : Cx} {pn : List (Addr × Obj)} {xe : Value → Shared → Prop} {W0 : WX} {f : Addr} {B : Addr → Prop} {μ : List Addr} {S : List O} {H : Hp} {z : Str} {j n : Nat} {cp : Pos} (h : DE0 G Z pn xe W0 F A f B μ S H c e)
    (he : starEach [.Constant (.str z) j cp, e] Z.env = (false, eval (.Constant (.str z) j cp) Z.env) :: starEach [e] Z.env) (he2 : starEach [e] Z.env = (false, eval e Z.env) :: starEach [] Z.env) : DE0 G Z pn xe W0 F A f B μ S H (.tup [.cst (.str z), c]) (.Tuple [.Constant (.str z) j cp, e] n pos) := by
  obtain ⟨t, ht, q⟩ := h
  refine ⟨_, pe_tup (pa_cons pe_str (pa_cons ht pa_nil he2) he), fun σ Q hl h0 o => ?_⟩
  rw [ev] at o
  simp only [evs, ev, ok, R.bind] at o
  refine q σ _ hl h0 ?_
  cases hx : ev F noL A c (ρ0 Z.N.length) S with
  | stuck => rw [hx] at o; exact o
  | err k g S1 => rw [hx] at o; exact o
  | ok w S1 =>
    rw [hx] at o
    have o : OKE G B (tupW [.d (.str z), w] S1) μ S H _ Q := o
    intro v μ1 H1 e1 r1 w1
    have hd : ∃ p, w = .d p := by
      cases w with
      | d p => exact ⟨p, rfl⟩
      | ref n => exact o.elim
      | scr n => exact o.elim
    obtain ⟨pd, rfl⟩ := hd
    refine ⟨by show 2 ≤ sizeLine
               have : sizeLine = 16777216 := by decide
               omega, fun pt hpt => ?_⟩
    have o : OKE G B (ok (.tuple [.str z, pd]) S1) μ S H _ Q := o
    refine o (.ref pt) μ1 _ (e1.trans (.ext (same_upd hpt))) (r1.ext (same_upd hpt)) ?_
    refine tup_new r1 hpt ?_
    simp only [DatL]
    exact ⟨.str z, [v], rfl, by simp only [Dat], v, [], rfl, w1, rfl⟩
/-- the first statement: slot = e -/
def TS0 (Gc : Cls) (G : Glob) (n : Nat) (F : FnT) (A : ActT) (f : Addr) (B : Addr → Prop) (μ : List Addr) (S : List O) (H : Hp) (ss : List Ci.S) (W0 : WX) : TS := fun D σ H' => H' = H ∧ σ.length = n ∧ σ[0]? = some (some (.ref f)) ∧ OKS G W0 B (exs Gc F noL A ss (ρ0 n) S) μ S H D
theorem DS0.set {Z : Cx} {pn : List (Addr × Obj)} {xe : Value → Shared → Prop} {W0 : WX} {f : Addr} {B : Addr → Prop} {μ : List Addr} {S : List O} {H : Hp} {i : Nat} {y : Str} {py : Pos} (nd : Z.N.Nodup) (hi : Z.N[i]? = some y) (hl : L2.Loc Z.env.scope y) (rl : Rel G.T B μ S H) (h : DE0 G Z pn xe W0 F A f B μ S H c e)
    (hs : swapsWith e (some (.Name y py)) pos.line Z.env = pure false) (hf : Z.fn y = true ∨ Z.env.scope.names.lookup y = some .local) : PSs (Z.tr pn xe) [.Assign [.Name y py] e pos] (TS0 Gc G Z.N.length F A f B μ S H [.set i c] W0) := by
  obtain ⟨t, ht, q⟩ := h
  have hp := pss_cons (ps_set (X := Z.tr pn xe) nd hi hl ht hs hf) pss_nil
  refine ⟨fun pins s σ H' D I ⟨eH, hl, h0, o⟩ => hp.run pins s σ H' D I ?_⟩
  subst eH
  refine q σ _ hl h0 ?_
  simp only [exs, ex] at o
  cases hx : ev F noL A c (ρ0 Z.N.length) S with
  | stuck => rw [hx] at o; exact o
  | err k g S1 => rw [hx] at o; exact fun cls d μ1 H1 e1 r1 z σ' hl' => o cls d σ' μ1 H1 e1 r1 (env0 hl') z
  | ok w S1 =>
    rw [hx] at o
    intro v μ1 H1 e1 r1 w1
    exact o _ μ1 H1 e1 r1 ((env0 hl).put i w1)
/-- a def: try: slot = e, a clause for each error; more -/
theorem gives_try {tab : Nat → Option Fn} {fi : Nat} {fn : Fn} {Ng : List Str} {x a q : Str} {sg : Scope} {g : Addr} {cdg : Value} {hs : List Hd} {h₁ : ExceptHandler} {hds : List ExceptHandler} {i : Nat} {y : Str} {py apos tpos : Pos} (htab : tab fi = some fn) (hnp : fn.np = 1) (hns : fn.ns = Ng.length) (hfb : fn.body = .try_ [.set i c] hs :: ss)
    (nd : Ng.Nodup) (hi : Ng[i]? = some y) (hly : sg.names.lookup y = some .local) (hlen : 1 ≤ Ng.length)
    (hsw : ∀ (s : Shared) (H : Hp), swapsWith e (some (.Name y py)) apos.line (cxOf C8.CX0 X.prog X.w X.K X.mg X.base Ng x sg g cdg X.A X.stack s H C8.E0).env = pure false)
    (hE : ∀ (s : Shared) (H : Hp) (f c' : Addr) (tl : XK → Hp → VK → Prop) (A : ActT) (B : Addr → Prop) (μ : List Addr) (S : List O) (W0 : WX) (pn : List (Addr × Obj)) (xe : Value → Shared → Prop), Act0 G (cxOf C8.CX0 X.prog X.w X.K X.mg X.base Ng x sg g cdg X.A X.stack s H C8.E0) A f c' q a tl B μ S H → Takes ((cxOf C8.CX0 X.prog X.w X.K X.mg X.base Ng x sg g cdg X.A X.stack s H C8.E0).tr pn xe) W0 →
      DE0 G (cxOf C8.CX0 X.prog X.w X.K X.mg X.base Ng x sg g cdg X.A X.stack s H C8.E0) pn xe W0 F A f B μ S H c e)
    (hh : ∀ (s : Shared) (H : Hp), DHds Gc G (cxOf C8.CX0 X.prog X.w X.K X.mg X.base Ng x sg g cdg X.A X.stack s H C8.E0).nox (fun _ _ _ _ => False) hs (h₁ :: hds))
    (hrest : ∀ (s : Shared) (H : Hp) (A : ActT), DSs Gc G (cxOf C8.CX0 X.prog X.w X.K X.mg X.base Ng x sg g cdg X.A X.stack s H C8.E0).nox (fun _ _ _ _ => False) F noL A ss sts) :
    LamX.GivesTo X Ng x sg g cdg (.Try [.Assign [.Name y py] e apos] (h₁ :: hds) [] [] tpos :: sts) a q (TTa G (lamOf Gc tab F fi)) := by
  rintro f c' s H Q tl act hco ⟨A, B, μ, S, rl, ac, o⟩
  have h0 : Act0 G (cxOf C8.CX0 X.prog X.w X.K X.mg X.base Ng x sg g cdg X.A X.stack s H C8.E0) A f c' q a tl B μ S H := ⟨rl, hco, ac, act⟩
  obtain ⟨l, hl, ql⟩ := hh s H
  obtain ⟨u, hu, qu⟩ := hrest s H A
  have ht := ps_try_asM (X := (cxOf C8.CX0 X.prog X.w X.K X.mg X.base Ng x sg g cdg X.A X.stack s H C8.E0).nox) (pos := tpos) (body := [.Assign [.Name y py] e apos]) rfl rfl nd (tb := TS0 Gc G Ng.length F A f B μ S H [.set i c])
    (fun W0 pn xe tk _ => DS0.set (Z := cxOf C8.CX0 X.prog X.w X.K X.mg X.base Ng x sg g cdg X.A X.stack s H C8.E0) nd hi (.inl hly) rl (hE s H f c' tl A B μ S W0 pn xe h0 tk) (hsw s H) (.inl rfl)) hl
  refine ⟨_, pss_cons ht hu, ?_⟩
  have hst : (L2.start Ng [V.ref f]).length = Ng.length := by
    unfold L2.start
    simp
    omega
  refine ⟨rfl, hst, rfl, ?_⟩
  unfold lamOf at o
  rw [htab] at o
  simp only [hnp, hns, hfb, if_true, exs] at o
  have o : OKE G B (SR.calm (thenS (ex Gc F noL A (.try_ [.set i c] hs) (ρ0 Ng.length) S) fun ρ1 σ1 => exs Gc F noL A ss ρ1 σ1)) μ S H (fun _ _ _ => False) Q := o
  rw [ex] at o
  have fin : ∀ (r : SR) (μ1 : List Addr) (S1 : List O) (H1 : Hp), OKE G B r.calm μ1 S1 H1 (fun _ _ _ => False) Q → OKS G (fun _ _ _ _ => False) B r μ1 S1 H1 { nx := fun _ H' => Q .non H', rt := Q } := fun r μ1 S1 H1 h => by
    cases r with
    | next ρ1 S2 => exact fun σ' μ' H' e' r' er' => h .non μ' H' e' r' (by simp only [WR, Dat])
    | ret w S2 => exact h
    | err k g ρ1 S2 => exact h.elim
    | stuck => exact h
  have go : ∀ (ρ1 : Ev) (σ1 : L2.St) (μ1 : List Addr) (S1 : List O) (H1 : Hp), EnvR H1 μ1 (Live B μ1 S1) ρ1 σ1 → Rel G.T B μ1 S1 H1 → OKE G B (SR.calm (exs Gc F noL A ss ρ1 S1)) μ1 S1 H1 (fun _ _ _ => False) Q → u { nx := fun _ H' => Q .non H', rt := Q } σ1 H1 := fun ρ1 σ1 μ1 S1 H1 er r1 h => qu ρ1 σ1 B μ1 S1 H1 _ er r1 (fin _ _ _ _ h)
  cases hx : exs Gc F noL A [.set i c] (ρ0 Ng.length) S with
  | next ρ1 S1 =>
    rw [hx] at o
    exact fun σ1 μ1 H1 e1 r1 er1 => go ρ1 σ1 μ1 S1 H1 er1 r1 (OKE.evo (show OKE G B (SR.calm (exs Gc F noL A ss ρ1 S1)) μ S H _ Q from o) e1)
  | ret w S1 => rw [hx] at o; exact o
  | stuck => rw [hx] at o; exact o
  | err k g ρ1 S1 =>
    rw [hx] at o
    intro cls d σ1 μ1 H1 e1 r1 er1 ee
    have ec : cls = .ref (G.clsA k) := ee.1
    subst ec
    have o : OKE G B (SR.calm (thenS (catch_ Gc k g ρ1 S1 hs) fun ρ1 σ1 => exs Gc F noL A ss ρ1 σ1)) μ S H (fun _ _ _ => False) Q := o
    refine ql _ k g ρ1 σ1 B μ1 S1 H1 d er1 r1 ee ?_
    cases hy : catch_ Gc k g ρ1 S1 hs with
    | next ρ2 S2 =>
      rw [hy] at o
      exact fun σ2 μ2 H2 e2 r2 er2 => go ρ2 σ2 μ2 S2 H2 er2 r2 (OKE.evo (show OKE G B (SR.calm (exs Gc F noL A ss ρ2 S2)) μ S H _ Q from o) (e1.trans e2))
    | ret w S2 => rw [hy] at o; exact OKS.evo (G := G) (Wx := fun _ _ _ _ => False) (r := .ret w S2) (D := { nx := fun _ _ => True, rt := Q }) o e1
    | err k2 g2 ρ2 S2 => rw [hy] at o; exact o.elim
    | stuck => rw [hy] at o; exact o.elim
end
end Ci

end
section
set_option linter.all false
set_option autoImplicit false
set_option maxHeartbeats 1000000
namespace Ci
open PySem L2
variable [kI : HasK]

section
variable {Gc : Cls} {G : Glob} {X : Cx} {Wx : WX} {F : FnT} {L : LamT} {A : ActT} {a b c d i : C} {ea eb ec ei e tg : Expr} {p pos cpos tpos apos : Pos} {x : Str} {s : S} {ss su : List S} {st : Stmt} {sts stu : List Stmt}

theorem szl : sizeLine = 16777216 := by decide

theorem kv_any {H : Hp} {μ : List Addr} {Lv : Addr → Prop} {k : Key} : ∀ {kvs : List (Key × W)} {kv : List (Key × V)}, KvR H μ Lv kvs kv → (kvs.any fun p => decide (p.1 = k)) = (kv.any fun p => decide (p.1 = k))
  | [], kv, h => by rw [show kv = [] from h]; rfl
  | q :: r, kv, h => by
    obtain ⟨v, t, e, h1, h2⟩ := h
    rw [e, List.any_cons, List.any_cons, kv_any h2]
theorem kv_len {H : Hp} {μ : List Addr} {Lv : Addr → Prop} : ∀ {kvs : List (Key × W)} {kv : List (Key × V)}, KvR H μ Lv kvs kv → kvs.length = kv.length
  | [], kv, h => by rw [show kv = [] from h]; rfl
  | q :: r, kv, h => by
    obtain ⟨v, t, e, h1, h2⟩ := h
    rw [e, List.length_cons, List.length_cons, kv_len h2]
theorem kv_map {H : Hp} {μ : List Addr} {Lv : Addr → Prop} {k : Key} {w : W} {v : V} (hw : WR H μ Lv w v) : ∀ {kvs : List (Key × W)} {kv : List (Key × V)}, KvR H μ Lv kvs kv → KvR H μ Lv (kvs.map fun p => if p.1 = k then (p.1, w) else p) (kv.map fun p => if p.1 = k then (p.1, v) else p)
  | [], kv, h => by rw [show kv = [] from h]; rfl
  | q :: r, kv, h => by
    obtain ⟨u, t, e, h1, h2⟩ := h
    subst e
    by_cases hk : q.1 = k
    · exact ⟨v, _, by simp [hk], by simpa [hk] using hw, kv_map hw h2⟩
    · exact ⟨u, _, by simp [hk], by simpa [hk] using h1, kv_map hw h2⟩
theorem kv_snoc {H : Hp} {μ : List Addr} {Lv : Addr → Prop} {k : Key} {w : W} {v : V} (hw : WR H μ Lv w v) : ∀ {kvs : List (Key × W)} {kv : List (Key × V)}, KvR H μ Lv kvs kv → KvR H μ Lv (kvs ++ [(k, w)]) (kv ++ [(k, v)])
  | [], kv, h => by rw [show kv = [] from h]; exact ⟨v, [], rfl, hw, rfl⟩
  | q :: r, kv, h => by
    obtain ⟨u, t, e, h1, h2⟩ := h
    subst e
    exact ⟨u, _, rfl, h1, kv_snoc hw h2⟩
theorem kv_set {H : Hp} {μ : List Addr} {Lv : Addr → Prop} {k : Key} {w : W} {v : V} (hw : WR H μ Lv w v) {kvs : List (Key × W)} {kv : List (Key × V)} (h : KvR H μ Lv kvs kv) : KvR H μ Lv (setK kvs k w) (L2.putK kv k v) := by
  unfold setK L2.putK
  rw [kv_any h]
  split
  · exact kv_map hw h
  · exact kv_snoc hw h
theorem putK_ok {ρ : Ev} {x y w : W} {S : List O} {B : Addr → Prop} {μ : List Addr} {H : Hp} {D : Ends} (o : OKS G Wx B (storeS ρ (Ci.putK x y w S)) μ S H D) :
    ∃ n q kvs k, x = .ref n ∧ y = .d q ∧ S[n]? = some (.dK kvs) ∧ toKey q = some k ∧ kvs.length < 100000 ∧ storeS ρ (Ci.putK x y w S) = .next ρ (S.set n (.dK (setK kvs k w))) := by
  unfold Ci.putK at o
  split at o
  · rename_i n q
    split at o
    · rename_i kvs hx
      split at o
      · rename_i k hk
        split at o
        · rename_i hl
          exact ⟨n, q, kvs, k, rfl, rfl, hx, hk, hl, by rw [show Ci.putK (.ref n) (.d q) w S = some (S.set n (.dK (setK kvs k w))) from by unfold Ci.putK; simp only [hx]; rw [hk]; simp only [if_pos hl]]; rfl⟩
        · exact o.elim
      · exact o.elim
    · exact o.elim
  · exact o.elim
theorem key_val {H : Hp} {Lv : Addr → Prop} {q : PyData} {k : Key} {v : V} (h : toKey q = some k) (d : Dat H Lv q v) : v = kV k := by
  cases q with
  | int i =>
    have h : some (Sum.inl i) = some k := h
    cases h
    exact (by simpa only [Dat] using d : v = .int i)
  | str z =>
    have h : some (Sum.inr z) = some k := h
    cases h
    exact (by simpa only [Dat] using d : v = .str z)
  | _ => cases h
theorem DS.dput (hu : X.A.units + 1 < cLine) (hv : DE G X Wx F L A c e) (ha : DE G X Wx F L A a ea) (hi : DE G X Wx F L A i ei) (h1 : swapsWith e (some (.Subscript ea ei tpos)) pos.line X.env = pure false) : DS Gc G X Wx F L A (.dput a i c) (.Assign [.Subscript ea ei tpos] e pos) := by
  obtain ⟨t, ht, q⟩ := hv
  obtain ⟨ta, hta, qa⟩ := ha
  obtain ⟨ti, hti, qi⟩ := hi
  refine ⟨_, ps_dput hu hta hti ht h1, fun ρ σ B μ S H D er rl o => ?_⟩
  rw [ex] at o
  refine q ρ σ B μ S H _ er rl (OKS.bindE er rl o fun w S1 v μ1 H1 e1 r1 w1 o1 => ?_)
  have er1 := er.evo rl e1
  refine qa ρ σ B μ1 S1 H1 _ er1 r1 (OKS.bindE er1 r1 o1 fun x S2 u μ2 H2 e2 r2 w2 o2 => ?_)
  have er2 := er1.evo r1 e2
  refine qi ρ σ B μ2 S2 H2 _ er2 r2 (OKS.bindE er2 r2 o2 fun y S3 z μ3 H3 e3 r3 w3 o3 => ?_)
  obtain ⟨n, qk, kvs, k, rfl, rfl, hx, hk, hlt, eq⟩ := putK_ok o3
  rw [eq] at o3
  obtain ⟨l, hl, hu⟩ := w2
  have ez := key_val hk w3
  subst ez
  have hl3 := e3.pre _ _ hl
  obtain ⟨kv, q1, q2⟩ := r3.obj n l _ hl3 hx
  have dv : WR H3 μ3 (Live B μ3 S3) w v := (w1.evo r1 e2).evo r2 e3
  have E : Evo μ3 S3 H3 μ3 (S3.set n (.dK (setK kvs k w))) (upd H3 l (.dK (L2.putK kv k v))) := .write r3 hl3 hx (by intro z; cases z)
  refine ⟨l, _, hu, .k q1 (by rw [← kv_len q2, szl]; omega), ?_⟩
  exact o3 σ μ3 _ E (r3.write hl3 hx (by intro z; cases z) ⟨_, upd_same, (kv_set dv q2).evo r3 E⟩) ((er2.evo r2 e3).evo r3 E)

theorem augS_ok {ρ : Ev} {j : Nat} {op : BOp} {x w : W} {S0 S : List O} {B : Addr → Prop} {μ : List Addr} {H : Hp} {D : Ends} (o : OKS G Wx B (augS ρ j op x w S) μ S0 H D) : ∃ k l m, x = .d (.int k) ∧ w = .d (.int l) ∧ augI op k l = some m ∧ augS ρ j op x w S = .next (putAt j (.d (.int m)) ρ) S := by
  unfold augS at o ⊢
  split at o
  · rename_i k l hk
    split at o
    · rename_i m hm
      unfold twoInts at hk
      split at hk
      · cases hk
        exact ⟨_, _, m, rfl, rfl, hm, rfl⟩
      · cases hk
    · exact o.elim
  · exact o.elim
theorem DS.aug {j : Nat} {y : Str} {o : BOp} {op : Operator} {f : Int → Int → Int} (nd : X.N.Nodup) (hi : X.N[j]? = some y) (hl : L2.Loc X.env.scope y) (he : DE G X Wx F L A c e) (ho : PIp X op (ipI f)) (hof : ∀ k l, augI o k l = some (f k l)) (hf : X.fn y = true ∨ X.env.scope.names.lookup y = some .local) :
    DS Gc G X Wx F L A (.aug j o c) (.AugAssign (.Name y tpos) op e pos) := by
  obtain ⟨t, ht, q⟩ := he
  refine ⟨_, ps_aug nd hi hl ht ho hf, fun ρ σ B μ S H D er rl z => ?_⟩
  rw [ex] at z
  unfold varW at z
  split at z
  · rename_i w0 hw0
    obtain ⟨v0, h1, h2⟩ := er.at_ j w0 hw0
    have z : OKS G Wx B ((ev F L A c ρ S).st ρ fun w σ1 => augS ρ j o w0 w σ1) μ S H D := z
    refine ⟨v0, h1, q ρ σ B μ S H _ er rl (OKS.bindE er rl z fun w S1 v μ1 H1 e1 r1 w1 o1 => ?_)⟩
    obtain ⟨k, l, m, rfl, rfl, hm, eq⟩ := augS_ok o1
    rw [eq] at o1
    rw [hof] at hm
    cases hm
    have e0 := wr_int h2
    have e2 := wr_int w1
    exact ⟨k, l, e0, e2, oks_next o1 ((er.evo rl e1).put j (w := .d (.int (f k l))) (by simp only [WR, Dat])) r1⟩
  · exact z.elim

theorem appW_ok {ρ : Ev} {x w : W} {S : List O} {B : Addr → Prop} {μ : List Addr} {H : Hp} {D : Ends} (o : OKS G Wx B (storeS ρ (appW x w S)) μ S H D) :
    ∃ n p xs, x = .ref n ∧ w = .d p ∧ S[n]? = some (.lst xs) ∧ xs.length < 100000 ∧ storeS ρ (appW x w S) = .next ρ (S.set n (.lst (xs ++ [p]))) := by
  unfold appW at o
  split at o
  · rename_i n q
    split at o
    · rename_i xs hx
      split at o
      · rename_i hl
        exact ⟨n, q, xs, rfl, rfl, hx, hl, by rw [show appW (.ref n) (.d q) S = some (S.set n (.lst (xs ++ [q]))) from by unfold appW; simp only [hx, if_pos hl]]; rfl⟩
      · exact o.elim
    · exact o.elim
  · exact o.elim
theorem DS.app (ha : DE G X Wx F L A a ea) (hv : DE G X Wx F L A c e) (h1 : attributeBase ea "append" X.env (eval ea X.env) = eval ea X.env)
    (h2 : (((backTo cpos (starEach [e] X.env)).all fun x => !x.1) && ((backToKw cpos (keywordEach [] X.env)).all fun x => x.1.isSome) && decide (([e] : List Expr).length + ([] : List Keyword).length + (if ([] : List Keyword).isEmpty = true then 0 else 1) < 30)) = true)
    (h3 : (apos.endLine == cpos.line) = true) (h4 : starEach [e] X.env = (false, eval e X.env) :: starEach [] X.env) (h5 : (backTo cpos (starEach [] X.env)).any (·.1) = false) (h6 : swapsWith (.Call (.Attribute ea "append" apos) [e] [] cpos) none pos.line X.env = pure false) :
    DS Gc G X Wx F L A (.app a c) (.Expr (.Call (.Attribute ea "append" apos) [e] [] cpos) pos) := by
  obtain ⟨ta, hta, qa⟩ := ha
  obtain ⟨t, ht, q⟩ := hv
  refine ⟨_, ps_expr (pe_bm PySem.F.plainAttrs_list PySem.F.slot_list_append PySem.F.type_list_append mt_append hta (pa_cons ht pa_nil h4) h1 h2 h3 h4 h5) h6, fun ρ σ B μ S H D er rl o => ?_⟩
  rw [ex] at o
  refine qa ρ σ B μ S H _ er rl (OKS.bindE er rl o fun x S1 v μ1 H1 e1 r1 w1 o1 => ?_)
  have er1 := er.evo rl e1
  rcases lstS_or x S1 ((ev F L A c ρ S1).st ρ fun w σ2 => storeS ρ (appW x w σ2)) with z | ⟨n, xs0, rfl, hx0, z⟩
  · rw [z] at o1
    exact o1.elim
  · rw [z] at o1
    obtain ⟨l, hl, hv⟩ := w1
    obtain ⟨vs0, q1, _⟩ := r1.obj n l _ hl hx0
    refine ⟨by rw [hv]; exact .inl ⟨rfl, vs0, .inl (.inl q1)⟩, q ρ σ B μ1 S1 H1 _ er1 r1 (OKS.bindE er1 r1 o1 fun w S2 u μ2 H2 e2 r2 w2 o2 => ?_)⟩
    obtain ⟨n', pd, xs, hn, rfl, hx, hlt, eq⟩ := appW_ok o2
    cases hn
    rw [eq] at o2
    have hl2 := e2.pre _ _ hl
    obtain ⟨vs, g1, g2⟩ := r2.obj n l _ hl2 hx
    refine ⟨l, vs, u, hv, rfl, g1, by rw [← g2.length, szl]; omega, ?_⟩
    have dv : Dat H2 (Live B μ2 S2) pd u := w2
    exact o2 σ μ2 _ (.write r2 hl2 hx (by intro z; cases z)) (r2.writeL hl2 hx (g2.append (by simp only [DatL]; exact ⟨u, [], rfl, dv, rfl⟩))) ((er1.evo r1 e2).evo r2 (.write r2 hl2 hx (by intro z; cases z)))
theorem insW_ok {ρ : Ev} {x y w : W} {S : List O} {B : Addr → Prop} {μ : List Addr} {H : Hp} {D : Ends} (o : OKS G Wx B (storeS ρ (insW x y w S)) μ S H D) :
    ∃ n k p xs, x = .ref n ∧ y = .d (.int k) ∧ w = .d p ∧ S[n]? = some (.lst xs) ∧ xs.length < 100000 ∧ 0 ≤ k ∧ k ≤ xs.length ∧ storeS ρ (insW x y w S) = .next ρ (S.set n (.lst (xs.take k.toNat ++ p :: xs.drop k.toNat))) := by
  unfold insW at o
  split at o
  · rename_i n k q
    split at o
    · rename_i xs hx
      split at o
      · rename_i hl
        exact ⟨n, k, q, xs, rfl, rfl, rfl, hx, hl.1, hl.2.1, hl.2.2, by rw [show insW (.ref n) (.d (.int k)) (.d q) S = some (S.set n (.lst (xs.take k.toNat ++ q :: xs.drop k.toNat))) from by unfold insW; simp only [hx, if_pos hl]]; rfl⟩
      · exact o.elim
    · exact o.elim
  · exact o.elim
theorem DS.ins (ha : DE G X Wx F L A a ea) (hi : DE G X Wx F L A i ei) (hv : DE G X Wx F L A c e) (h1 : attributeBase ea "insert" X.env (eval ea X.env) = eval ea X.env)
    (h2 : (((backTo cpos (starEach [ei, e] X.env)).all fun x => !x.1) && ((backToKw cpos (keywordEach [] X.env)).all fun x => x.1.isSome) && decide (([ei, e] : List Expr).length + ([] : List Keyword).length + (if ([] : List Keyword).isEmpty = true then 0 else 1) < 30)) = true)
    (h3 : (apos.endLine == cpos.line) = true) (h4 : starEach [ei, e] X.env = (false, eval ei X.env) :: starEach [e] X.env) (h7 : starEach [e] X.env = (false, eval e X.env) :: starEach [] X.env) (h5 : (backTo cpos (starEach [e] X.env)).any (·.1) = false) (h6 : swapsWith (.Call (.Attribute ea "insert" apos) [ei, e] [] cpos) none pos.line X.env = pure false) :
    DS Gc G X Wx F L A (.ins a i c) (.Expr (.Call (.Attribute ea "insert" apos) [ei, e] [] cpos) pos) := by
  obtain ⟨ta, hta, qa⟩ := ha
  obtain ⟨ti, hti, qi⟩ := hi
  obtain ⟨t, ht, q⟩ := hv
  refine ⟨_, ps_expr (pe_bm PySem.F.plainAttrs_list PySem.F.slot_list_insert PySem.F.type_list_insert mt_insert hta (pa_cons hti (pa_cons ht pa_nil h7) h4) h1 h2 h3 h4 h5) h6, fun ρ σ B μ S H D er rl o => ?_⟩
  rw [ex] at o
  refine qa ρ σ B μ S H _ er rl (OKS.bindE er rl o fun x S1 v μ1 H1 e1 r1 w1 o1 => ?_)
  have er1 := er.evo rl e1
  rcases lstS_or x S1 ((ev F L A i ρ S1).st ρ fun y σ2 => (ev F L A c ρ σ2).st ρ fun w σ3 => storeS ρ (insW x y w σ3)) with z | ⟨n, xs0, rfl, hx0, z⟩
  · rw [z] at o1
    exact o1.elim
  · rw [z] at o1
    obtain ⟨l, hl, hv⟩ := w1
    obtain ⟨vs0, q1, _⟩ := r1.obj n l _ hl hx0
    refine ⟨by rw [hv]; exact .inl ⟨rfl, vs0, .inl (.inl q1)⟩, qi ρ σ B μ1 S1 H1 _ er1 r1 (OKS.bindE er1 r1 o1 fun y S2 u μ2 H2 e2 r2 w2 o2 => ?_)⟩
    have er2 := er1.evo r1 e2
    refine q ρ σ B μ2 S2 H2 _ er2 r2 (OKS.bindE er2 r2 o2 fun w S3 t μ3 H3 e3 r3 w3 o3 => ?_)
    obtain ⟨n', k, pd, xs, hn, rfl, rfl, hx, hlt, hk0, hk1, eq⟩ := insW_ok o3
    cases hn
    rw [eq] at o3
    have hl3 := e3.pre _ _ (e2.pre _ _ hl)
    obtain ⟨vs, g1, g2⟩ := r3.obj n l _ hl3 hx
    have eu := wr_int w2
    subst eu
    have dv : Dat H3 (Live B μ3 S3) pd t := w3
    have bx : k < 2 ^ 63 := by
      have : (2 : Int) ^ 63 = 9223372036854775808 := by decide
      omega
    refine ⟨l, vs, k, t, hv, rfl, g1, by rw [← g2.length, szl]; omega, hk0, bx, ?_⟩
    rw [List.append_assoc]
    exact o3 σ μ3 _ (.write r3 hl3 hx (by intro z; cases z)) (r3.writeL hl3 hx ((g2.take k.toNat).append (by simp only [DatL, List.singleton_append]; exact ⟨t, _, rfl, dv, g2.drop k.toNat⟩))) ((er2.evo r2 e3).evo r3 (.write r3 hl3 hx (by intro z; cases z)))
end
end Ci

end
section
set_option linter.all false
set_option autoImplicit false
set_option maxHeartbeats 1000000
namespace Ci
open PySem L2
variable [kI : HasK]

def DkOff (H H' : Hp) : Prop := ∀ a o, H a = some o → (∀ kv, o ≠ .dK kv) → H' a = some o
mutual
theorem Dat.off {H H' : Hp} {Lv : Addr → Prop} (k : DkOff H H') : ∀ (p : PyData) (v : V), Dat H Lv p v → Dat H' Lv p v
  | .none, v, h => by simpa only [Dat] using h
  | .bool b, v, h => by simpa only [Dat] using h
  | .int i, v, h => by simpa only [Dat] using h
  | .str s, v, h => by simpa only [Dat] using h
  | .list xs, v, h => by
    simp only [Dat] at h ⊢
    obtain ⟨a, vs, e, r, nl, d⟩ := h
    exact ⟨a, vs, e, k _ _ r (fun kv z => by cases z), nl, DatL.off k xs vs d⟩
  | .tuple xs, v, h => by
    simp only [Dat] at h ⊢
    obtain ⟨a, vs, e, r, d⟩ := h
    exact ⟨a, vs, e, k _ _ r (fun kv z => by cases z), DatL.off k xs vs d⟩
  | .dict _, v, h => by simp only [Dat] at h
theorem DatL.off {H H' : Hp} {Lv : Addr → Prop} (k : DkOff H H') : ∀ (xs : List PyData) (vs : List V), DatL H Lv xs vs → DatL H' Lv xs vs
  | [], vs, h => by simpa only [DatL] using h
  | x :: xs, vs, h => by
    simp only [DatL] at h ⊢
    obtain ⟨v, r, e, h1, h2⟩ := h
    exact ⟨v, r, e, Dat.off k x v h1, DatL.off k xs r h2⟩
end
theorem WR.off {H H' : Hp} {μ : List Addr} {Lv : Addr → Prop} (k : DkOff H H') {w : W} {v : V} (h : WR H μ Lv w v) : WR H' μ Lv w v := by
  cases w with
  | d p => exact Dat.off k p v h
  | ref n => exact h
  | scr xs =>
    obtain ⟨a, vs, e, r, d⟩ := h
    refine ⟨a, vs, e, ?_, DatL.off k xs vs d⟩
    rcases r with ⟨r, nl⟩ | r
    · refine .inl ⟨?_, nl⟩
      rcases r with r | ⟨o, r⟩
      · exact .inl (k _ _ r (fun kv z => by cases z))
      · exact .inr ⟨o, k _ _ r (fun kv z => by cases z)⟩
    · exact .inr r
theorem KvR.off {κ : Type} {H H' : Hp} {μ : List Addr} {Lv : Addr → Prop} (k : DkOff H H') : ∀ {kvs : List (κ × W)} {kv : List (κ × V)}, KvR H μ Lv kvs kv → KvR H' μ Lv kvs kv
  | [], kv, h => h
  | p :: r, kv, h => by
    obtain ⟨v, t, e, h1, h2⟩ := h
    exact ⟨v, t, e, h1.off k, KvR.off k h2⟩
theorem WRs.off {H H' : Hp} {μ : List Addr} {Lv : Addr → Prop} (k : DkOff H H') : ∀ {ws : List W} {vs : List V}, WRs H μ Lv ws vs → WRs H' μ Lv ws vs
  | [], vs, h => h
  | w :: ws, vs, h => by
    obtain ⟨v, r, e, h1, h2⟩ := h
    exact ⟨v, r, e, h1.off k, WRs.off k h2⟩
theorem dk_off {H : Hp} {pt : Addr} {kv : List (Key × V)} (h : H pt = some (.dK kv)) : DkOff H (del H pt) := fun a o e n => by
  rw [del_ne]
  · exact e
  · intro z
    rw [z, h] at e
    exact n kv (Option.some.inj e).symm
theorem Rel.off {T : List (Addr × Str)} {B : Addr → Prop} {μ : List Addr} {S : List O} {H : Hp} {pt : Addr} {kv : List (Key × V)} (R : Rel T B μ S H) (h : H pt = some (.dK kv)) (nl : ¬ LiveS μ S pt) : Rel T B μ S (del H pt) := by
  have k := dk_off h
  refine ⟨R.len, R.inj, fun i a o h1 h2 => ?_, fun q hq => ?_, fun a hb => ?_, R.bn⟩
  · have z := R.obj i a o h1 h2
    have ne : o ≠ .dead → a ≠ pt := fun ho e => nl ⟨i, o, by rw [← e]; exact h1, h2, ho⟩
    cases o with
    | lst ds => obtain ⟨vs, e1, d⟩ := z; exact ⟨vs, by rw [del_ne (ne (by intro z; cases z))]; exact e1, DatL.off k ds vs d⟩
    | dK kvs => obtain ⟨kv, e1, d⟩ := z; exact ⟨kv, by rw [del_ne (ne (by intro z; cases z))]; exact e1, d.off k⟩
    | dT kvs => obtain ⟨kv, e1, d⟩ := z; exact ⟨kv, by rw [del_ne (ne (by intro z; cases z))]; exact e1, d.off k⟩
    | dead => trivial
  · obtain ⟨ps, q1, q2, q3⟩ := R.tabs q hq
    refine ⟨ps, k _ _ q1 (fun kv z => by cases z), q2, fun pos cv hc => ?_⟩
    obtain ⟨c, e1, e2⟩ := q3 pos cv hc
    exact ⟨c, e1, k _ _ e2 (fun kv z => by unfold LamX.CodeO at z; cases z)⟩
  · obtain ⟨vs, q⟩ := R.bl a hb
    exact ⟨vs, k _ _ q (fun kv z => by cases z)⟩
theorem upd_del {H : Hp} {pt : Addr} {o : HO} : upd (del H pt) pt o = upd H pt o := by
  funext b
  by_cases e : b = pt
  · rw [e, upd_same, upd_same]
  · rw [upd_ne e, upd_ne e, del_ne e]

section
variable {Gc : Cls} {G : Glob} {X : Cx} {Wx : WX} {F : FnT} {L : LamT} {A : ActT} {a b c d i : C} {ea eb ec ei e tg : Expr} {p pos cpos tpos apos : Pos} {x : Str} {s : S} {ss su : List S} {st : Stmt} {sts stu : List Stmt}

def kvsOf : List Str → List V → List (Key × V)
  | k :: ks, v :: vs => (.inr k, v) :: kvsOf ks vs
  | _, _ => []
/-- the pairs of a dict -/
def DPs (G : Glob) (X : Cx) (pos : Pos) (Wx : WX) (F : FnT) (L : LamT) (A : ActT) (ks : List Str) (cs : List C) (eks : List (Option Expr)) (es : List Expr) : Prop := ∃ trs : List (TE × TE), PPs X pos eks es trs ∧ ∀ (ρ : Ev) (σ : L2.St) (B : Addr → Prop) (μ : List Addr) (S : List O) (H : Hp) (Q : List (V × V) → Hp → Prop), EnvR H μ (Live B μ S) ρ σ → Rel G.T B μ S H →
  OKA G B (evs F L A cs ρ S) μ S H (fun cls d H' => Wx cls d σ H') (fun vs H' => vs.length = ks.length → Q ((kvsOf ks vs).map fun q => (kV q.1, q.2)) H') → (∀ ws S', evs F L A cs ρ S = .ok ws S' → ws.length = ks.length) → tPairs trs σ H Q
theorem evs_len : ∀ (cs : List C) (ρ : Ev) (S : List O) (ws : List W) (S' : List O), evs F L A cs ρ S = .ok ws S' → ws.length = cs.length
  | [], ρ, S, ws, S', h => by
    rw [evs] at h
    cases h
    rfl
  | c :: cs, ρ, S, ws, S', h => by
    rw [evs] at h
    cases h1 : ev F L A c ρ S with
    | stuck => rw [h1] at h; cases h
    | err k f S1 => rw [h1] at h; cases h
    | ok w S1 =>
      rw [h1] at h
      simp only [R.bind] at h
      cases h2 : evs F L A cs ρ S1 with
      | stuck => rw [h2] at h; cases h
      | err k f S2 => rw [h2] at h; cases h
      | ok us S2 =>
        rw [h2] at h
        cases h
        rw [List.length_cons, List.length_cons, evs_len cs ρ S1 us _ h2]
theorem DPs.nil : DPs G X pos Wx F L A [] [] [] [] := ⟨[], pps_nil, fun ρ σ B μ S H Q er rl o _ => by
  unfold evs at o
  exact o [] μ H .refl rl rfl rfl⟩
theorem DPs.cons {k : Str} {ks : List Str} {cs : List C} {eks : List (Option Expr)} {es : List Expr} {j : Nat} {kp : Pos} (hl : cs.length = ks.length) (hv : DE G X Wx F L A c e) (hr : DPs G X pos Wx F L A ks cs eks es) : DPs G X pos Wx F L A (k :: ks) (c :: cs) (some (.Constant (.str k) j kp) :: eks) (e :: es) := by
  obtain ⟨t, ht, q⟩ := hv
  obtain ⟨u, hu, r⟩ := hr
  refine ⟨_, pps_cons pe_str ht hu, fun ρ σ B μ S H Q er rl o hn => ?_⟩
  unfold evs at o
  show t σ H fun y H2 => tPairs u σ H2 fun ps H3 => Q ((.str k, y) :: ps) H3
  refine q ρ σ B μ S H _ er rl (OKA.bind o fun w S1 v μ1 H1 e1 r1 w1 o1 => ?_)
  refine r ρ σ B μ1 S1 H1 _ (er.evo rl e1) r1 ?_ (fun ws S' h => by rw [evs_len _ _ _ _ _ h, hl])
  cases hx : evs F L A cs ρ S1 with
  | stuck => rw [hx] at o1; exact o1
  | err k2 f S2 => rw [hx] at o1; exact o1
  | ok us S2 =>
    rw [hx] at o1
    intro vs μ2 H2 e2 r2 w2 hlen
    exact o1 (v :: vs) μ2 H2 e2 r2 ⟨v, vs, rfl, w1.evo r1 e2, w2⟩ (by simp [hlen])
theorem kvs_rel {H : Hp} {μ : List Addr} {Lv : Addr → Prop} : ∀ {ks : List Str} {ws : List W} {vs : List V}, WRs H μ Lv ws vs → ws.length = ks.length → KvR H μ Lv ((ks.map Sum.inr).zip ws) (kvsOf ks vs)
  | [], [], vs, h, _ => by
    have h : vs = [] := h
    subst h
    rfl
  | k :: ks, w :: ws, vs, h, hl => by
    obtain ⟨v, r, e, h1, h2⟩ := h
    subst e
    exact ⟨v, _, rfl, h1, kvs_rel h2 (by simpa using hl)⟩
  | [], w :: ws, vs, h, hl => by simp at hl
  | k :: ks, [], vs, h, hl => by simp at hl
theorem kvs_keys : ∀ {ks : List Str} {vs : List V}, vs.length = ks.length → (kvsOf ks vs).map (·.1) = ks.map Sum.inr
  | [], [], _ => rfl
  | k :: ks, v :: vs, h => by
    show Sum.inr k :: (kvsOf ks vs).map (·.1) = _
    rw [kvs_keys (by simpa using h)]
    rfl
  | [], v :: vs, h => by simp at h
  | k :: ks, [], h => by simp at h
theorem merge_id (more : List (Key × V)) : ∀ (kvs : List (Key × V)), (kvs.map (·.1) ++ more.map (·.1)).Nodup → mergeK kvs more = kvs ++ more := by
  induction more with
  | nil => intro kvs _; rw [List.append_nil]; rfl
  | cons q r ih =>
    intro kvs h
    show mergeK (L2.putK kvs q.1 q.2) r = _
    have hn : ∀ z ∈ kvs, z.1 ≠ q.1 := fun z hz e => by
      rw [List.nodup_append] at h
      exact h.2.2 z.1 (List.mem_map.mpr ⟨z, hz, rfl⟩) q.1 (by simp) e
    have e : L2.putK kvs q.1 q.2 = kvs ++ [q] := by
      unfold L2.putK
      rw [if_neg]
      intro z
      obtain ⟨y, hy, hk⟩ := List.any_eq_true.mp z
      exact hn y hy (of_decide_eq_true hk)
    rw [e, ih _ (by simpa [List.map_append] using h), List.append_assoc]
    rfl
theorem DE.dict {ks : List Str} {cs : List C} {eks : List (Option Expr)} {es : List Expr} (hp : DPs G X pos Wx F L A ks cs eks es) (hl : cs.length = ks.length) (h1 : eks.all (·.isSome) = true) (h2 : eks.length = es.length) (h3 : eks ≠ []) (h4 : eks.length ≤ 15) (h5 : ks.Nodup) (h6 : ks.length ≤ 15) :
    DE G X Wx F L A (.dict ks cs) (.Dict eks es pos) := by
  obtain ⟨trs, ht, q⟩ := hp
  refine ⟨_, pe_disp ht h1 h2 h3 h4, fun ρ σ B μ S H Q er rl o pt hpt => ?_⟩
  rw [ev] at o
  have E0 : Evo μ S H μ S (upd H pt (.dK [])) := .ext (same_upd hpt)
  have r0 := rl.ext (same_upd (o := .dK []) hpt)
  refine q ρ σ B μ S _ _ (er.evo rl E0) r0 ?_ (fun ws S' h => by rw [evs_len _ _ _ _ _ h, hl])
  cases hx : evs F L A cs ρ S with
  | stuck => rw [hx] at o; exact o
  | err k f S1 => rw [hx] at o; exact fun cls d μ1 H1 e1 r1 z => o cls d μ1 H1 (E0.trans e1) r1 z
  | ok ws S1 =>
    rw [hx] at o
    have o : OKE G B (dictW ks ws S1) μ S H (fun cls d H' => Wx cls d σ H') Q := o
    intro vs μ1 H1 e1 r1 w1 hlen
    have hwl : ws.length = ks.length := by rw [evs_len _ _ _ _ _ hx, hl]
    have nl : ¬ LiveS μ S pt := fun z => rl.some_of (.inr z) hpt
    have hk : H1 pt = some (.dK []) := e1.keep pt _ upd_same nl (fun ps z => by cases z)
    have nl1 : ¬ LiveS μ1 S1 pt := fun z => by
      rcases e1.new pt z with z | z
      · exact nl z
      · obtain ⟨_, z⟩ := z _ upd_same
        cases z
    have nB : ¬ B pt := fun z => rl.some_of (.inl z) hpt
    unfold dictW at o
    split at o
    · refine ⟨hk, kvsOf ks vs, rfl, ?_, ?_⟩
      · have := congrArg List.length (kvs_keys hlen)
        simp only [List.length_map] at this
        rw [this]
        exact h6
      · have em : mergeK [] (kvsOf ks vs) = kvsOf ks vs := by
          rw [merge_id]
          · rfl
          · rw [kvs_keys hlen]
            exact List.Pairwise.map _ (fun a b h z => h (Sum.inr.inj z)) h5
        rw [em]
        have k := dk_off hk
        have r2 := r1.off hk nl1
        have hz : del H1 pt pt = Option.none := del_same
        have nd : O.dK ((ks.map Sum.inr).zip ws) ≠ O.dead := by intro z; cases z
        have E2 := evo_new (ho := .dK (kvsOf ks vs)) r2 hz nd
        have kr : KvR (del H1 pt) μ1 (Live B μ1 S1) ((ks.map Sum.inr).zip ws) (kvsOf ks vs) := kvs_rel (w1.off k) hwl
        have r3 := rel_new r2 hz nd ⟨_, upd_same, kr.evo r2 E2⟩
        rw [upd_del] at E2 r3
        refine o (.ref pt) (μ1 ++ [pt]) _ ?_ r3 ⟨pt, ?_, rfl⟩
        · refine ⟨fun n a h => E2.pre n a (e1.pre n a h), fun a u h n1 n2 => ?_, fun a l => ?_⟩
          · have na : a ≠ pt := ne_of_none h hpt
            rw [upd_ne na]
            exact e1.keep a u (by rw [upd_ne na]; exact h) n1 n2
          · rcases (LiveS.snoc r2.len nd).mp l with z | z
            · rcases e1.new a z with z | z
              · exact .inl z
              · by_cases e : a = pt
                · rw [e]
                  exact .inr (.of hpt)
                · refine .inr fun u hu => z u ?_
                  rw [upd_ne e]
                  exact hu
            · rw [z]
              exact .inr (.of hpt)
        · rw [← r1.len]
          simp
    · exact o.elim
end
end Ci

end
section
set_option linter.all false
set_option autoImplicit false
set_option maxHeartbeats 1000000
set_option maxRecDepth 100000
namespace Ci
open PySem L2 PySem.Spec PyProof.Rows
variable [kI : HasK]

abbrev AK := Addr × List Int
def fst2 (q : AK) : Int := q.2.getD 0 0
def snd2 (q : AK) : Int := q.2.getD 1 0
def encP (q : AK) : PyData := .tuple [.int (fst2 q), .int (snd2 q)]
def leP (p q : AK) : Bool := decide (fst2 p < fst2 q ∨ (fst2 p = fst2 q ∧ snd2 p ≤ snd2 q))
theorem leP_eq : PySem.W.dataLe false encP = leP := PySem.W.dataLe_ii fst2 snd2
theorem leP_trans (a b c : AK) (h1 : leP a b = true) (h2 : leP b c = true) : leP a c = true := by
  unfold leP at *
  simp only [decide_eq_true_eq] at *
  omega
theorem leP_total (a b : AK) : (leP a b || leP b a) = true := by
  unfold leP
  rw [← Bool.decide_or, decide_eq_true_eq]
  omega
theorem pair_list {l : List Int} (h : l.length = 2) : l = [l.getD 0 0, l.getD 1 0] := by
  match l, h with
  | [x, y], _ => rfl
theorem each_refs {bs : List AK} : PySem.W.EachIs (fun v (q : AK) => v = Value.ref q.1) (bs.map fun q => Value.ref q.1) bs := by
  induction bs with
  | nil => exact .nil
  | cons b bs ih => exact .cons rfl ih
theorem refs_each {out : List Value} {bs : List AK} (h : PySem.W.EachIs (fun v (q : AK) => v = Value.ref q.1) out bs) : out = bs.map fun q => Value.ref q.1 := by
  induction h with
  | nil => rfl
  | cons e _ ih => rw [List.map_cons, e, ih]
theorem reads_ints {h : Heap} : ∀ {k : List Int} {vs : List Value}, IntsAre vs k → ReadsAll h vs (k.map .int) []
  | [], _, .nil => .nil
  | n :: k, _, .cons _ t r => .cons (as := []) (bs := []) (.int n t) (reads_ints r)
theorem reads_tup {P : Program} {w : World} {h : Heap} {k : List Int} {b : Addr} (x : L2.IsT P w h k b) : Reads h (.ref b) (.tuple (k.map .int)) [] := by
  obtain ⟨o, items, n, ho, hc, hd, hi⟩ := x
  exact .tuple ho hc hd (reads_ints (ints_of_items hi))
section
variable {P : Program} {w : World} {A : Around} {E : Value → Shared → Prop} {s : Shared}
theorem sorted_pairs {a : Addr} {Ls : List AK} {es : Array (Int × Value)} {ep : Nat} {t : SetTable} {Q : Value → Shared → Prop} (R : SetTR P w s.heap a Ls es ep t) (hh : A.handled = none) (hu : A.units + 64 < cLine) (hB : ∀ p ∈ Ls, p.2.length = 2)
    (hQ : ∀ s' p (out : Array Value) (c : Nat) (L' : List AK), (∀ b o, s.heap.get? b = some o → s'.heap.get? b = some o) → s'.gens = s.gens → s'.os = s.os → s.heap.objs.size ≤ p →
      s'.heap.get? p = some (seqObj "list" out c) → out.toList = L'.map (fun q => Value.ref q.1) → (∀ q ∈ L', q ∈ Ls) → L'.Perm Ls → L'.Pairwise (fun q r => leP q r = true) → Q (.ref p) s') :
    wpAny (model P w) A (call (.builtin "sorted") [.ref a]) Q E s := by
  obtain ⟨so, ho, hex, hd⟩ := R.ob
  have hfew := R.few
  refine Calls.call_function_entry kind_sorted plain_sorted entry_sorted (args_sorted1 _) ?_
  unfold Builtin.«sorted»
  refine wpAny_bind (m := checkCount "sorted" 1 1 _) (wpAny_pure ?_)
  refine wpAny_bind (collect_set (A := A.in1) hh ⟨so, ho, hex.1, hd⟩ R.fits (by have := R.size; unfold scanBound; omega) R.tab.ris R.led fun s1 vs keep1 grow g1 os1 pm => ?_)
  have rows : es.toList.map (·.2) = Ls.map fun q => Value.ref q.1 := by
    rw [R.rows]
    unfold rowsOf
    rw [List.map_map]
    rfl
  rw [rows] at pm
  have pick : ∀ us : List Value, (∀ u ∈ us, ∃ q ∈ Ls, u = Value.ref q.1) → ∃ M : List AK, us = M.map (fun q => Value.ref q.1) ∧ ∀ q ∈ M, q ∈ Ls := by
    intro us
    induction us with
    | nil => exact fun _ => ⟨[], rfl, fun q z => by cases z⟩
    | cons u us ih =>
      intro hm
      obtain ⟨q, hq, e⟩ := hm u List.mem_cons_self
      obtain ⟨M, e2, hs⟩ := ih fun y hy => hm y (List.mem_cons_of_mem _ hy)
      exact ⟨q :: M, by rw [List.map_cons, e, e2], fun r hr => (List.mem_cons.mp hr).elim (fun z => by rw [z]; exact hq) (hs r)⟩
  obtain ⟨M, eM, sM⟩ := pick vs fun u hu => by
    obtain ⟨q, hq, e⟩ := List.mem_map.mp (pm.mem_iff.mp hu)
    exact ⟨q, hq, e.symm⟩
  subst eM
  have inj : ∀ q ∈ Ls, ∀ r ∈ Ls, q.1 = r.1 → q = r := fun q hq r hr e => by
    have t1 := R.tup q hq
    have t2 := R.tup r hr
    rw [e] at t1
    exact Prod.ext e (t1.inj t2)
  have nL : Ls.Nodup := nodup_of_map R.nd
  have permM : M.Perm Ls := by
    have nr : (Ls.map fun q => Value.ref q.1).Nodup := List.pairwise_map.mpr (nL.imp_of_mem fun {q r} hq hr ne e => by
      injection e with e
      exact ne (inj q hq r hr e))
    have nM : M.Nodup := nodup_of_map (pm.nodup_iff.mpr nr)
    refine (List.perm_ext_iff_of_nodup nM nL).mpr fun q => ⟨sM q, fun hq => ?_⟩
    obtain ⟨r, hr, e⟩ := List.mem_map.mp (pm.mem_iff.mpr (List.mem_map.mpr ⟨q, hq, rfl⟩))
    injection e with e
    rw [← inj r (sM r hr) q hq e]
    exact hr
  have hlen : M.length < 64 := by rw [permM.length_eq]; exact hfew
  refine wpAny_bind (wpAny_newList ?_ (by rw [List.length_map, sizeLine_eq]; omega))
  have oL : (s1.heap.push (seqObj "list" (M.map fun q => Value.ref q.1).toArray 0)).get? s1.heap.objs.size = some (seqObj "list" (M.map fun q => Value.ref q.1).toArray 0) := Heap.get?_push_size _ rfl
  have er : ∀ bs : List AK, (∀ q ∈ bs, q ∈ Ls) → PySem.W.EachIs (fun v (b : AK) => ∃ as, Reads (s1.heap.push (seqObj "list" (M.map fun q => Value.ref q.1).toArray 0)) v (encP b) as ∧ ¬ s1.heap.objs.size ∈ as) (bs.map fun q => Value.ref q.1) bs := by
    intro bs
    induction bs with
    | nil => exact fun _ => .nil
    | cons b bs ih =>
      intro hm
      refine .cons ⟨[], ?_, by simp⟩ (ih fun q hq => hm q (List.mem_cons_of_mem _ hq))
      have hb := hm b List.mem_cons_self
      have rd := reads_tup (P := P) (w := w) (h := s1.heap.push (seqObj "list" (M.map fun q => Value.ref q.1).toArray 0)) (isT_keep (R.tup b hb) fun x u e => Heap.get?_push_of_some _ (keep1 x u e))
      rw [pair_list (hB b hb)] at rd
      exact rd
  refine wpAny_bind (wpAny_holding (PySem.W.list_sort_data (s := { s1 with heap := s1.heap.push (seqObj "list" (M.map fun q => Value.ref q.1).toArray 0) }) (enc := encP) oL each_refs (er M sM) (.of fun b b' => rfl) (.tuples fun b => ⟨_, _, rfl⟩) (by rw [sizeLine_eq]; omega) (fun b hb => ?_) fun out hl ho2 => ?_))
  · show A.in1.units + 1 + (encP b).depth < cLine
    have e1 : (encP b).depth = 1 := by
      unfold encP
      simp [PyData.depth, PyData.depthAll]
    have e2 : A.in1.units = A.units + 1 := rfl
    rw [e1]
    omega
  · rw [leP_eq] at ho2
    have eo := refs_each ho2
    subst eo
    obtain ⟨c, hc⟩ := sortedHeap_at (vs := M.map fun q => Value.ref q.1) (out := ((M.mergeSort leP).map fun q => Value.ref q.1).toArray) oL
    have pS : (M.mergeSort leP).Perm M := List.mergeSort_perm M leP
    refine wpAny_pure ⟨_, rfl, hQ _ s1.heap.objs.size _ c (M.mergeSort leP) (fun b u e => ?_) g1 os1 grow hc (by simp) (fun q hq => sM q (pS.mem_iff.mp hq)) (pS.trans permM) (List.pairwise_mergeSort leP_trans leP_total M)⟩
    have q := keep1 b u e
    have lt := Heap.lt_size q
    show (sortedHeap (s1.heap.push (seqObj "list" (M.map fun q => Value.ref q.1).toArray 0)) s1.heap.objs.size _ _).get? b = some u
    rw [sortedHeap_old (Nat.ne_of_lt lt) (by rw [size_push']; exact Nat.lt_succ_of_lt lt)]
    exact Heap.get?_push_of_some _ q
end
end Ci

end
section
set_option linter.all false
set_option autoImplicit false
set_option maxHeartbeats 1000000
namespace Ci
open PySem L2
variable [kI : HasK]

theorem pairLt_iff {a b : Int × Int} : pairLt a b = true ↔ a.1 < b.1 ∨ (a.1 = b.1 ∧ a.2 < b.2) := by
  unfold pairLt
  simp [Bool.or_eq_true, Bool.and_eq_true]
theorem mem_insP {a x : Int × Int} : ∀ {l : List (Int × Int)}, x ∈ insP a l ↔ x = a ∨ x ∈ l
  | [] => by simp [insP]
  | b :: r => by
    unfold insP
    split
    · simp
    · split
      · rename_i e
        subst e
        simp
      · rw [List.mem_cons, mem_insP, List.mem_cons]
        constructor
        · rintro (h | h | h)
          · exact .inr (.inl h)
          · exact .inl h
          · exact .inr (.inr h)
        · rintro (h | h | h)
          · exact .inr (.inl h)
          · exact .inl h
          · exact .inr (.inr h)
theorem sorted_insP {a : Int × Int} : ∀ {l : List (Int × Int)}, l.Pairwise (fun p q => pairLt p q = true) → (insP a l).Pairwise (fun p q => pairLt p q = true)
  | [], _ => by simp [insP]
  | b :: r, h => by
    obtain ⟨h1, h2⟩ := List.pairwise_cons.mp h
    unfold insP
    split
    · rename_i hl
      refine List.pairwise_cons.mpr ⟨fun x hx => ?_, h⟩
      rcases List.mem_cons.mp hx with e | m
      · rw [e]; exact hl
      · have := h1 x m
        rw [pairLt_iff] at *
        omega
    · split
      · exact h
      · rename_i hl hne
        refine List.pairwise_cons.mpr ⟨fun x hx => ?_, sorted_insP h2⟩
        rcases mem_insP.mp hx with e | m
        · rw [e, pairLt_iff]
          have hl : ¬ (a.1 < b.1 ∨ (a.1 = b.1 ∧ a.2 < b.2)) := fun z => hl (pairLt_iff.mpr z)
          have : ¬ (a.1 = b.1 ∧ a.2 = b.2) := fun z => hne (Prod.ext z.1 z.2)
          omega
        · exact h1 x m
theorem mem_sortP {x : Int × Int} : ∀ {l : List (Int × Int)}, x ∈ sortP l ↔ x ∈ l
  | [] => by simp [sortP]
  | b :: r => by
    show x ∈ insP b (sortP r) ↔ _
    rw [mem_insP, mem_sortP, List.mem_cons]
theorem sorted_sortP : ∀ (l : List (Int × Int)), (sortP l).Pairwise (fun p q => pairLt p q = true)
  | [] => .nil
  | b :: r => sorted_insP (sorted_sortP r)
theorem sorted_uniq : ∀ {l m : List (Int × Int)}, l.Pairwise (fun p q => pairLt p q = true) → m.Pairwise (fun p q => pairLt p q = true) → (∀ x, x ∈ l ↔ x ∈ m) → l = m
  | [], [], _, _, _ => rfl
  | [], b :: r, _, _, h => by simpa using (h b).mpr List.mem_cons_self
  | a :: l, [], _, _, h => by simpa using (h a).mp List.mem_cons_self
  | a :: l, b :: m, h1, h2, h => by
    obtain ⟨a1, a2⟩ := List.pairwise_cons.mp h1
    obtain ⟨b1, b2⟩ := List.pairwise_cons.mp h2
    have irr : ∀ {x y : Int × Int}, pairLt x y = true → pairLt y x = true → False := fun p q => by
      rw [pairLt_iff] at p q
      omega
    have irf : ∀ {x : Int × Int}, pairLt x x = true → False := fun p => irr p p
    have e : a = b := by
      rcases List.mem_cons.mp ((h a).mp List.mem_cons_self) with e | m1
      · exact e
      · rcases List.mem_cons.mp ((h b).mpr List.mem_cons_self) with e | m2
        · exact e.symm
        · exact (irr (a1 b m2) (b1 a m1)).elim
    subst e
    congr 1
    refine sorted_uniq a2 b2 fun x => ⟨fun hx => ?_, fun hx => ?_⟩
    · rcases List.mem_cons.mp ((h x).mp (List.mem_cons_of_mem _ hx)) with e | m1
      · exact (irf (e ▸ a1 x hx)).elim
      · exact m1
    · rcases List.mem_cons.mp ((h x).mpr (List.mem_cons_of_mem _ hx)) with e | m1
      · exact (irf (e ▸ b1 x hx)).elim
      · exact m1
def akP (q : AK) : Int × Int := (fst2 q, snd2 q)
/-- the tuples sorted are the pairs sorted -/
theorem ak_sort {ks M : List AK} {ps : List (Int × Int)} (hps : ks.map akP = ps) (h2 : ∀ q ∈ ks, q.2.length = 2) (sub : ∀ q ∈ M, q ∈ ks) (all : ∀ q ∈ ks, q.2 ∈ M.map (·.2)) (nd : (M.map (·.2)).Nodup) (so : M.Pairwise (fun q r => leP q r = true)) : M.map akP = sortP ps := by
  have key : ∀ q ∈ M, q.2 = [fst2 q, snd2 q] := fun q hq => pair_list (h2 q (sub q hq))
  refine sorted_uniq ?_ (sorted_sortP ps) fun x => ?_
  · refine List.pairwise_map.mpr ?_
    have nd2 : M.Pairwise (fun q r => q.2 ≠ r.2) := List.pairwise_map.mp nd
    refine (List.Pairwise.and so nd2).imp_of_mem fun {q r} hq hr ⟨h1, h3⟩ => ?_
    rw [pairLt_iff]
    unfold leP at h1
    rw [decide_eq_true_eq] at h1
    have : ¬ (fst2 q = fst2 r ∧ snd2 q = snd2 r) := fun z => h3 (by rw [key q hq, key r hr, z.1, z.2])
    show fst2 q < fst2 r ∨ (fst2 q = fst2 r ∧ snd2 q < snd2 r)
    omega
  · rw [mem_sortP, ← hps]
    constructor
    · intro h
      obtain ⟨q, hq, e⟩ := List.mem_map.mp h
      exact List.mem_map.mpr ⟨q, sub q hq, e⟩
    · intro h
      obtain ⟨q, hq, e⟩ := List.mem_map.mp h
      obtain ⟨r, hr, er⟩ := List.mem_map.mp (all q hq)
      refine List.mem_map.mpr ⟨r, hr, ?_⟩
      rw [← e]
      unfold akP fst2 snd2
      rw [er]

section
variable {Gc : Cls} {G : Glob} {X : Cx} {Wx : WX} {F : FnT} {L : LamT} {A : ActT} {a b c d i : C} {ea eb ec ei e tg : Expr} {p p2 pos pos2 cpos tpos apos : Pos} {x : Str}

/-- sorted(set), pairs of ints -/
def rSortP (K : PySem.W.Frag) (P : Program) (w : World) : List V → Hp → VK → Prop := fun vs H Q => ∃ (a : Addr) (M : List AK), vs = [V.ref a] ∧ H a = some (SetTO P w a M) ∧ (∀ p ∈ M, SqT K H p.1 (p.2.map V.int)) ∧ (∀ p ∈ M, p.2.length = 2) ∧
  ∀ (M' : List AK) (p : Addr), (∀ q ∈ M', q ∈ M) → M'.Perm M → (M'.map (·.2)).Nodup → M'.Pairwise (fun q r => leP q r = true) → H p = none → Q (.ref p) (upd H p (.lst (M'.map fun q => V.ref q.1)))
theorem cr_sortP (hc : X.calm = true) (hu : X.A.units + 64 < cLine) : CallR X (.builtin "sorted") (rSortP X.K X.prog X.w) := by
  rintro pins s σ H vs us Q I r ⟨a, M, rfl, ha, hk, h2, q⟩
  have R0 : SetT0 X.prog X.w s.heap a M := (I.hok a _ ha).1
  obtain ⟨es, ep, t, R⟩ := R0.full fun p hp => I.isT (hk p hp)
  rw [Vals.ref1 r]
  refine sorted_pairs R (I.ok.hd hc) hu h2 fun s' p out c M' k g o hp hg hout sub pm pw => ?_
  have few : M'.length < 64 := by rw [pm.length_eq]; exact R.few
  have n0 : H p = Option.none := I.hok.fresh hp
  have hv : Vals (M'.map fun q => V.ref q.1) out.toList := by rw [hout]; exact vals_of_refs M'
  have J : L2.Inv X pins σ (upd H p (.lst (M'.map fun q => V.ref q.1))) { s with heap := s'.heap, gens := s'.gens, drawn := s'.drawn, toks := s'.toks } :=
    I.call (ch := []) (Un.laid k hp n0) (I.hok.laid k hp ⟨by rw [List.length_map, szl]; omega, out.toList, c, hv, hg⟩) (by rw [g]; exact I.bare) (fun _ z => nomatch z)
  have es : s' = { s with heap := s'.heap, gens := s'.gens, drawn := s'.drawn, toks := s'.toks } := by
    cases s'
    cases s
    cases o
    rfl
  rw [es]
  exact ⟨.ref p, _, J, rfl, q M' p sub pm ((pm.map (·.2)).nodup_iff.mpr R.nd) pw n0⟩
/-- a list of pairs -/
theorem aks_of {H : Hp} {Lv : Addr → Prop} {K : PySem.W.Frag} : ∀ {xs : List PyData} {vs : List V} {ps : List (Int × Int)}, DatL H Lv xs vs → xs.mapM pairOf = some ps → ∃ ks : List AK, vs = (ks.map fun q => V.ref q.1) ∧ ks.map akP = ps ∧ ∀ q ∈ ks, q.2.length = 2 ∧ H q.1 = some (.tup (q.2.map V.int))
  | [], vs, ps, d, h => by
    simp only [DatL] at d
    subst d
    simp at h
    subst h
    exact ⟨[], rfl, rfl, fun q z => by cases z⟩
  | x :: xs, vs, ps, d, h => by
    simp only [DatL] at d
    obtain ⟨v, r, rfl, d1, d2⟩ := d
    rw [List.mapM_cons] at h
    cases h1 : pairOf x with
    | none => rw [h1] at h; cases h
    | some pr =>
      rw [h1] at h
      cases h2 : xs.mapM pairOf with
      | none => rw [h2] at h; cases h
      | some qs =>
        rw [h2] at h
        cases h
        obtain ⟨ks, e1, e2, e3⟩ := aks_of (K := K) d2 h2
        unfold pairOf at h1
        split at h1
        · rename_i i j
          cases h1
          obtain ⟨a, ws, ev, hH, dd⟩ := dat_tup d1
          have ew : ws = [V.int i, V.int j] := by
            simp only [DatL, Dat] at dd
            obtain ⟨v1, r1, e1, e2, v2, r2, e3, e4, e5⟩ := dd
            rw [e1, e2, e3, e4, e5]
          subst ew
          refine ⟨(a, [i, j]) :: ks, by rw [ev, e1]; rfl, by rw [List.map_cons, e2]; rfl, fun q hq => ?_⟩
          rcases List.mem_cons.mp hq with z | z
          · rw [z]; exact ⟨rfl, hH⟩
          · exact e3 q z
        · cases h1
theorem sortW_ok {w : W} {S1 S : List O} {B : Addr → Prop} {μ : List Addr} {H : Hp} {E : XK} {Q : VK} (o : OKE G B (sortSetW w S1) μ S H E Q) : ∃ xs ps, w = .d (.list xs) ∧ xs.mapM pairOf = some ps ∧ ps.length < 64 ∧ sortSetW w S1 = ok (.list ((sortP ps).map pairD)) S1 := by
  unfold sortSetW at o ⊢
  split at o
  · rename_i p
    unfold sortSet at o ⊢
    split at o
    · rename_i xs
      split at o
      · rename_i ps h1
        by_cases hl : ps.length < 64
        · exact ⟨xs, ps, rfl, h1, hl, by simp only [h1, if_pos hl]; rfl⟩
        · simp only [if_neg hl] at o
          exact o.elim
      · exact o.elim
    · exact o.elim
  · exact o.elim
theorem DE.sortSet (hc : X.calm = true) (hu : X.A.units + 64 < cLine) (ha : DE G X Wx F L A a ea) (hg : Gl X "sorted") (hm : X.mg "sorted" = Option.none) (hg2 : Gl X "set") (hm2 : X.mg "set" = Option.none)
    (he : starEach [ea] X.env = (false, eval ea X.env) :: starEach [] X.env) (hpl : (backTo pos2 (starEach [] X.env)).any (·.1) = false) (he2 : starEach [.Call (.Name "set" p2) [ea] [] pos2] X.env = (false, eval (.Call (.Name "set" p2) [ea] [] pos2) X.env) :: starEach [] X.env) (hpl2 : (backTo pos (starEach [] X.env)).any (·.1) = false) :
    DE G X Wx F L A (.sortSet a) (.Call (.Name "sorted" p) [.Call (.Name "set" p2) [ea] [] pos2] [] pos) := by
  obtain ⟨t, ht, q⟩ := ha
  refine ⟨_, pe_callB (cr_sortP hc hu) hg hm (by decide +kernel) (pa_cons (pe_callTy (cr_setOfT hc hu) hg2 hm2 (by decide +kernel) (pa_cons ht pa_nil he) (by decide) (by decide) he hpl) pa_nil he2) (by decide) (by decide) he2 hpl2, fun ρ σ B μ S H Q er rl o => ?_⟩
  rw [ev] at o
  refine q ρ σ B μ S H _ er rl (OKE.bind o fun w S1 v μ1 H1 e1 r1 w1 o1 => ?_)
  obtain ⟨xs, ps, rfl, hp, hl, eq⟩ := sortW_ok o1
  rw [eq] at o1
  obtain ⟨l, vs, ev, hH, nl, dd⟩ := dat_list (H := H1) (L := Live B μ1 S1) w1
  obtain ⟨ks, evs, eks, hks⟩ := aks_of (K := X.K) dd hp
  subst evs
  have kl : ks.length = ps.length := by rw [← eks, List.length_map]
  refine ⟨l, ks, by rw [ev], .inl (.inl hH), fun q hq => .inl (.inl (hks q hq).2), by omega, fun sa M hsa sub all => ?_⟩
  have n1 : ∀ q ∈ ks, q.1 ≠ sa := fun q hq => ne_of_none (hks q hq).2 hsa
  refine ⟨sa, M, rfl, upd_same, fun q hq => .inl (.inl (by rw [upd_ne (n1 q (sub q hq))]; exact (hks q (sub q hq)).2)), fun q hq => (hks q (sub q hq)).1, fun M' np sub' pm nd so hnp => ?_⟩
  have hnp1 : H1 np = Option.none := by
    by_cases e : np = sa
    · rw [e]; exact hsa
    · rw [upd_ne e] at hnp; exact hnp
  have sm : Same H1 (upd (upd H1 sa (SetTO X.prog X.w sa M)) np (.lst (M'.map fun q => V.ref q.1))) := fun b u hb => by
    rw [upd_ne (ne_of_none hb hnp1), upd_ne (ne_of_none hb hsa)]
    exact hb
  have em : M'.map akP = sortP ps := ak_sort eks (fun q hq => (hks q hq).1) (fun q hq => sub q (sub' q hq)) (fun q hq => by
    obtain ⟨r, hr, e⟩ := List.mem_map.mp (all q hq)
    exact List.mem_map.mpr ⟨r, pm.mem_iff.mpr hr, e⟩) nd so
  have inM : ∀ q ∈ M', q ∈ ks := fun q hq => sub q (sub' q hq)
  have dl : ∀ Z : List AK, (∀ q ∈ Z, q ∈ ks) → DatL (upd (upd H1 sa (SetTO X.prog X.w sa M)) np (.lst (M'.map fun q => V.ref q.1))) (Live B μ1 S1) ((Z.map akP).map pairD) (Z.map fun q => V.ref q.1) := by
    intro Z
    induction Z with
    | nil => intro _; simp only [List.map_nil, DatL]
    | cons q Z ih =>
      intro hz
      simp only [List.map_cons, DatL]
      refine ⟨_, _, rfl, ?_, ih fun r hr => hz r (List.mem_cons_of_mem _ hr)⟩
      have hq := hks q (hz q List.mem_cons_self)
      have e2 := pair_list hq.1
      show Dat _ _ (.tuple [.int (fst2 q), .int (snd2 q)]) _
      simp only [Dat]
      refine ⟨q.1, q.2.map V.int, rfl, sm _ _ hq.2, ?_⟩
      rw [e2]
      simp only [List.map_cons, List.map_nil, DatL, Dat]
      exact ⟨_, _, rfl, rfl, _, _, rfl, rfl, rfl⟩
  refine o1 (.ref np) μ1 _ (.ext sm) (r1.ext sm) ?_
  show Dat _ _ (.list ((sortP ps).map pairD)) _
  simp only [Dat]
  refine ⟨np, _, rfl, upd_same, fun z => r1.some_of z hnp1, ?_⟩
  rw [← em]
  exact dl M' inM
end
end Ci

end
section
set_option linter.all false
set_option autoImplicit false
set_option maxHeartbeats 1000000
set_option maxRecDepth 100000
namespace Ci
open PySem L2 PySem.Spec PyProof.Rows
variable [kI : HasK]

theorem leP_pair (q r : AK) : leP q r = pairLe (akP q) (akP r) := by
  unfold leP pairLe akP
  rw [Bool.eq_iff_iff]
  simp only [Bool.not_eq_true', decide_eq_true_eq]
  rw [← Bool.not_eq_true, pairLt_iff]
  show (fst2 q < fst2 r ∨ (fst2 q = fst2 r ∧ snd2 q ≤ snd2 r)) ↔ ¬ (fst2 r < fst2 q ∨ (fst2 r = fst2 q ∧ snd2 r < snd2 q))
  omega
theorem ak_merge (ks : List AK) : (ks.mergeSort leP).map akP = (ks.map akP).mergeSort pairLe := List.map_mergeSort fun a _ b _ => leP_pair a b
section
variable {P : Program} {w : World} {A : Around} {E : Value → Shared → Prop} {s : Shared}
/-- what collect lays: a list of the items -/
def gath (h : Heap) (its : Array Value) : Heap := (h.push { cls := .type "list", data := .seq ([] : List Value).toArray }).update h.objs.size (Obj.mapSeq (· ++ its))
theorem gath_old {h : Heap} {its : Array Value} {b : Addr} {o : Obj} (e : h.get? b = some o) : (gath h its).get? b = some o :=
  (Heap.get?_update_other _ _ (Nat.ne_of_gt (Heap.lt_size e))).trans (Heap.get?_push_of_some _ e)
theorem gath_size (h : Heap) (its : Array Value) : h.objs.size ≤ (gath h its).objs.size := by
  unfold gath
  rw [Heap.size_update, size_push']
  exact Nat.le_succ _
theorem collect_at {Q : List Value → Shared → Prop} {l : Addr} {T : String} {o : Obj} {its : Array Value} {n : Nat} (hT : T = "list" ∨ T = "tuple") (ho : s.heap.get? l = some o) (hc : o.cls = .type T) (hd : o.data = .seq its n) (hz : its.size ≤ sizeLine)
    (k : Q its.toList { s with heap := gath s.heap its }) : wpAny (model P w) A (collect (.ref l)) Q E s := by
  have new0 : (s.heap.push { cls := .type "list", data := .seq ([] : List Value).toArray }).get? s.heap.objs.size = some { cls := .type "list", data := .seq #[] 0 } := Heap.get?_push_size _ rfl
  have new1 := Heap.get?_update_self (Obj.mapSeq (· ++ its)) new0 rfl
  unfold collect; refine wpAny_bind (wpAny_runValue (codeAny_builtin (F.entry_proto_collect) ?_))
  rw [Around.under_plainId (F.plain_proto_collect) _]
  show wpAny _ A.in1 (newList [] >>= fun u => again (.builtin "list.__iadd__" ⟨[u, .ref l], []⟩)) _ _ s
  refine wpAny_bind (wpAny_newObj_type ?_); refine wpAny_pure ⟨plainId_quiet (F.plain_list_iadd) _, codeAny_builtin (F.entry_list_iadd) ?_⟩
  rw [Around.under_plainId (F.plain_list_iadd) _]
  show wpAny _ A.in1 (Builtin.List.listExtendWith (.ref s.heap.objs.size) (.ref l) (.ref s.heap.objs.size)) _ _ _
  have last : wpAny (model P w) A (match Value.ref s.heap.objs.size with
      | Value.ref a => do match (← load a).data with
          | Data.seq ys _ => pure ys.toList
          | _ => unsupported "internal:collect"
      | _ => unsupported "internal:collect") Q E { s with heap := gath s.heap its } := by
    show wpAny _ A (load (s.heap.objs.size) >>= _) _ _ _
    refine wpAny_bind (wpAny_load new1 (wpAny_pure ?_))
    have e : ((#[] : Array Value) ++ its).toList = its.toList := by simp
    show Q (((#[] : Array Value) ++ its).toList) _
    rw [e]
    exact k
  have run := wpAny_extend_seq (prog := P) (w := w) (hsz := hz) (A := A) (R := fun r s' => r = .ok (.ret (.ref s.heap.objs.size)) ∧ s' = { s with heap := gath s.heap its })
    (s := { s with heap := s.heap.push { cls := .type "list", data := .seq ([] : List Value).toArray } }) s.heap.objs.size l (.ref s.heap.objs.size) 0 hT new0 (Heap.get?_push_of_some _ ho) hc hd ⟨rfl, rfl⟩
  refine wpAny_mono run (fun fin s' h => ?_) (fun e s' h => absurd h.1 (by simp))
  cases fin with
  | done f => obtain ⟨e, rfl⟩ := h; cases e; exact last
  | again c => exact ⟨h.1, codeAny_mono h.2 fun r s2 hr => by obtain ⟨rfl, rfl⟩ := hr; exact last⟩
theorem sorted_seq {l : Addr} {T : String} {o : Obj} {its : Array Value} {n : Nat} {ks : List AK} {Q : Value → Shared → Prop} (hT : T = "list" ∨ T = "tuple") (ho : s.heap.get? l = some o) (hc : o.cls = .type T) (hd : o.data = .seq its n) (hi : its.toList = ks.map fun q => Value.ref q.1)
    (ht : ∀ q ∈ ks, L2.IsT P w s.heap q.2 q.1) (h2 : ∀ q ∈ ks, q.2.length = 2) (hl : ks.length ≤ 100000) (hu : A.units + 64 < cLine)
    (hQ : ∀ s' p (out : Array Value) (c : Nat), (∀ b u, s.heap.get? b = some u → s'.heap.get? b = some u) → s'.gens = s.gens → s'.os = s.os → s.heap.objs.size ≤ p → s'.heap.get? p = some (seqObj "list" out c) → out.toList = (ks.mergeSort leP).map (fun q => Value.ref q.1) → Q (.ref p) s') :
    wpAny (model P w) A (call (.builtin "sorted") [.ref l]) Q E s := by
  have hz : its.size = ks.length := by rw [← Array.length_toList, hi, List.length_map]
  refine Calls.call_function_entry kind_sorted plain_sorted entry_sorted (args_sorted1 _) ?_
  unfold Builtin.«sorted»
  refine wpAny_bind (m := checkCount "sorted" 1 1 _) (wpAny_pure ?_)
  refine wpAny_bind (collect_at hT ho hc hd (by rw [hz, sizeLine_eq]; omega) ?_)
  have keep1 : ∀ b u, s.heap.get? b = some u → (gath s.heap its).get? b = some u := fun b u e => gath_old e
  have grow : s.heap.objs.size ≤ (gath s.heap its).objs.size := gath_size _ _
  generalize gath s.heap its = h1 at keep1 grow ⊢
  rw [hi]
  refine wpAny_bind (wpAny_newList ?_ (by rw [List.length_map, sizeLine_eq]; omega))
  have oL : (h1.push (seqObj "list" (ks.map fun q => Value.ref q.1).toArray 0)).get? h1.objs.size = some (seqObj "list" (ks.map fun q => Value.ref q.1).toArray 0) := Heap.get?_push_size _ rfl
  have er : ∀ bs : List AK, (∀ q ∈ bs, q ∈ ks) → PySem.W.EachIs (fun v (b : AK) => ∃ as, Reads (h1.push (seqObj "list" (ks.map fun q => Value.ref q.1).toArray 0)) v (encP b) as ∧ ¬ h1.objs.size ∈ as) (bs.map fun q => Value.ref q.1) bs := by
    intro bs
    induction bs with
    | nil => exact fun _ => .nil
    | cons b bs ih =>
      intro hm
      refine .cons ⟨[], ?_, by simp⟩ (ih fun q hq => hm q (List.mem_cons_of_mem _ hq))
      have hb := hm b List.mem_cons_self
      have rd := reads_tup (P := P) (w := w) (h := h1.push (seqObj "list" (ks.map fun q => Value.ref q.1).toArray 0)) (isT_keep (ht b hb) fun x u e => Heap.get?_push_of_some _ (keep1 x u e))
      rw [pair_list (h2 b hb)] at rd
      exact rd
  refine wpAny_bind (wpAny_holding (PySem.W.list_sort_data (s := { s with heap := h1.push (seqObj "list" (ks.map fun q => Value.ref q.1).toArray 0) }) (enc := encP) oL each_refs (er ks fun q h => h) (.of fun b b' => rfl) (.tuples fun b => ⟨_, _, rfl⟩) (by rw [sizeLine_eq]; omega) (fun b hb => ?_) fun out hl2 ho2 => ?_))
  · show A.in1.units + 1 + (encP b).depth < cLine
    have e1 : (encP b).depth = 1 := by
      unfold encP
      simp [PyData.depth, PyData.depthAll]
    have e2 : A.in1.units = A.units + 1 := rfl
    rw [e1]
    omega
  · rw [leP_eq] at ho2
    have eo := refs_each ho2
    subst eo
    obtain ⟨c, hc⟩ := sortedHeap_at (vs := ks.map fun q => Value.ref q.1) (out := ((ks.mergeSort leP).map fun q => Value.ref q.1).toArray) oL
    refine wpAny_pure ⟨_, rfl, hQ _ h1.objs.size _ c (fun b u e => ?_) rfl rfl grow hc (by simp)⟩
    have q := keep1 b u e
    have lt := Heap.lt_size q
    show (sortedHeap (h1.push (seqObj "list" (ks.map fun q => Value.ref q.1).toArray 0)) h1.objs.size _ _).get? b = some u
    rw [sortedHeap_old (Nat.ne_of_lt lt) (by rw [size_push']; exact Nat.lt_succ_of_lt lt)]
    exact Heap.get?_push_of_some _ q
end
section
variable {Gc : Cls} {G : Glob} {X : Cx} {Wx : WX} {F : FnT} {L : LamT} {A : ActT}
def rSortQ (K : PySem.W.Frag) : List V → Hp → VK → Prop := fun vs H Q => ∃ (a : Addr) (ks : List AK), vs = [V.ref a] ∧ (SqL K H a (ks.map fun q => V.ref q.1) ∨ SqT K H a (ks.map fun q => V.ref q.1)) ∧ (∀ p ∈ ks, SqT K H p.1 (p.2.map V.int) ∧ p.2.length = 2) ∧ ks.length ≤ 100000 ∧
  ∀ p : Addr, H p = none → Q (.ref p) (upd H p (.lst ((ks.mergeSort leP).map fun q => V.ref q.1)))
theorem cr_sortQ (hu : X.A.units + 64 < cLine) : CallR X (.builtin "sorted") (rSortQ X.K) := by
  rintro pins s σ H vs us Q I r ⟨a, ks, rfl, ha, hk, hl, q⟩
  rw [Vals.ref1 r]
  have go : ∀ (T : String) (o : Obj) (its : Array Value) (n : Nat), (T = "list" ∨ T = "tuple") → s.heap.get? a = some o → o.cls = .type T → o.data = .seq its n → its.toList = (ks.map fun q => Value.ref q.1) → wpAny (model X.prog X.w) X.A (call (.builtin "sorted") [.ref a]) (EP X pins σ Q) X.xe s := by
    intro T o its n hT ho hc hd hi
    refine sorted_seq hT ho hc hd hi (fun p hp => I.isT (hk p hp).1) (fun p hp => (hk p hp).2) hl hu fun s' p out c k g ose hp hg hout => ?_
    have n0 : H p = Option.none := I.hok.fresh hp
    have hv : Vals ((ks.mergeSort leP).map fun q => V.ref q.1) out.toList := by rw [hout]; exact vals_of_refs _
    have J : L2.Inv X pins σ (upd H p (.lst ((ks.mergeSort leP).map fun q => V.ref q.1))) { s with heap := s'.heap, gens := s'.gens, drawn := s'.drawn, toks := s'.toks } :=
      I.call (ch := []) (Un.laid k hp n0) (I.hok.laid k hp ⟨by rw [List.length_map, List.length_mergeSort, szl]; omega, out.toList, c, hv, hg⟩) (by rw [g]; exact I.bare) (fun _ z => nomatch z)
    have es : s' = { s with heap := s'.heap, gens := s'.gens, drawn := s'.drawn, toks := s'.toks } := by
      cases s'
      cases s
      cases ose
      rfl
    rw [es]
    exact ⟨.ref p, _, J, rfl, q p n0⟩
  rcases ha with ha | ha
  · obtain ⟨its, rv, pl, hz⟩ := I.list ha
    obtain ⟨o, ho, hc, n, hd⟩ := pl.isList
    exact go "list" o its.toArray n (.inl rfl) ho hc hd (by simpa using refs_of_vals rv)
  · obtain ⟨its, rv, ⟨o, ho, hc, n, hd⟩, hz⟩ := I.tuple ha
    exact go "tuple" o its.toArray n (.inr rfl) ho hc hd (by simpa using refs_of_vals rv)
theorem CalOk.sorted_ (hK : X.K = kI.K) (hu : X.A.units + 64 < cLine) : CalOk G X (.builtin "sorted") (one1 (prim1 .sorted_)) := CalOk.mk1 (cr_sortQ hu) fun w v B μ S H E Q R r o => by
  unfold prim1 at o
  dsimp only at o
  split at o
  · rename_i ps hx
    split at o
    · rename_i hl
      cases hs : seqOf w S with
      | none => rw [hs] at hx; cases hx
      | some xs =>
        rw [hs] at hx
        have hx : xs.mapM pairOf = some ps := hx
        obtain ⟨a, vs, rfl, d, h⟩ := seq_of (K := X.K) hK R r hs
        obtain ⟨ks, evs, eks, hks⟩ := aks_of (K := X.K) d hx
        subst evs
        have kl : ks.length = ps.length := by rw [← eks, List.length_map]
        refine ⟨a, ks, rfl, ?_, fun p hp => ⟨.inl (.inl (hks p hp).2), (hks p hp).1⟩, by omega, fun p hp => ?_⟩
        · rcases h with ⟨h, _⟩ | ⟨h, _⟩
          · exact .inl h
          · exact .inr h
        · have sm := same_upd (o := .lst ((ks.mergeSort leP).map fun q => V.ref q.1)) hp
          have dl : ∀ Z : List AK, (∀ q ∈ Z, q ∈ ks) → DatL H (Live B μ S) ((Z.map akP).map pairD) (Z.map fun q => V.ref q.1) := by
            intro Z
            induction Z with
            | nil => intro _; simp only [List.map_nil, DatL]
            | cons q Z ih =>
              intro hz
              simp only [List.map_cons, DatL]
              refine ⟨_, _, rfl, ?_, ih fun r hr => hz r (List.mem_cons_of_mem _ hr)⟩
              have hq := hks q (hz q List.mem_cons_self)
              have e2 := pair_list hq.1
              show Dat _ _ (.tuple [.int (fst2 q), .int (snd2 q)]) _
              simp only [Dat]
              refine ⟨q.1, q.2.map V.int, rfl, hq.2, ?_⟩
              rw [e2]
              simp only [List.map_cons, List.map_nil, DatL, Dat]
              exact ⟨_, _, rfl, rfl, _, _, rfl, rfl, rfl⟩
          have dm := dl (ks.mergeSort leP) fun q hq => (List.mergeSort_perm ks leP).mem_iff.mp hq
          rw [ak_merge, eks] at dm
          exact oke_ok o R sm (lst_new R hp dm)
    · exact o.elim
  · exact o.elim
end
end Ci

end
section
set_option linter.all false
set_option autoImplicit false
set_option maxHeartbeats 1000000
set_option maxRecDepth 100000
namespace Ci
open PySem L2 PySem.Spec PyProof.Rows
variable [kI : HasK]

section
variable {P : Program} {w : World} {A : Around} {E : Value → Shared → Prop} {s : Shared}
theorem back_adjust (n : Nat) : Builtin.Slice.sliceAdjust none none (-1) (n : Int) = ((n : Int) - 1, -1) := rfl
theorem back_places (n : Nat) : Builtin.Slice.slicePlaces ((n : Int) - 1) (-1) (-1) = n := by
  unfold Builtin.Slice.slicePlaces
  rw [if_neg (by omega : ¬ ((-1 : Int) > 0))]
  split
  · rw [show (-(-1) : Int) = 1 from rfl, Int.ediv_one]
    omega
  · omega
theorem fm_congr {α β : Type} {f g : α → Option β} : ∀ {l : List α}, (∀ x ∈ l, f x = g x) → l.filterMap f = l.filterMap g
  | [], _ => rfl
  | x :: r, h => by
    rw [List.filterMap_cons, List.filterMap_cons, h x List.mem_cons_self, fm_congr fun y hy => h y (List.mem_cons_of_mem _ hy)]
theorem back_pick (xs : Array Value) : ((List.range xs.size).filterMap fun (k : Nat) => xs[((xs.size : Int) - 1 + (k : Int) * (-1)).toNat]?) = xs.toList.reverse := by
  have e : ((List.range xs.size).filterMap fun (k : Nat) => xs[((xs.size : Int) - 1 + (k : Int) * (-1)).toNat]?) = (List.range xs.size).filterMap fun k => xs.toList.reverse[k]? := by
    refine fm_congr fun k hk => ?_
    have hk := List.mem_range.mp hk
    have e1 : ((xs.size : Int) - 1 + (k : Int) * (-1)).toNat = xs.size - 1 - k := by omega
    rw [e1, List.getElem?_reverse (by simpa using hk)]
    simp
  rw [e]
  have all : ∀ l : List Value, (List.range l.length).filterMap (fun k => l[k]?) = l := by
    intro l
    induction l with
    | nil => rfl
    | cons x r ih =>
      rw [List.length_cons, List.range_succ_eq_map, List.filterMap_cons]
      simp only [List.getElem?_cons_zero, List.filterMap_map]
      congr 1
  have h := all xs.toList.reverse
  rw [List.length_reverse, Array.length_toList] at h
  exact h
theorem back_applied {sl : Addr} {n : Nat} {u : Tok} {Q : Int × Int × Nat → Shared → Prop} (hs : s.heap.IsSliceOf sl .none .none (.int (-1) u)) (k : Q ((n : Int) - 1, -1, n) s) : wpAny (model P w) A (Builtin.Slice.sliceApplied (.ref sl) (pure (n : Int))) Q E s := by
  obtain ⟨so, ho, hc, hd⟩ := hs
  unfold Builtin.Slice.sliceApplied Builtin.Slice.sliceFields
  refine wpAny_bind (wpAny_bind (wpAny_field ho hd (x := .none) rfl (wpAny_bind (wpAny_field ho hd (x := .none) rfl (wpAny_bind (wpAny_field ho hd (x := .int (-1) u) rfl (wpAny_pure ?_)))))))
  refine wpAny_bind (HT.slicePart_ (.int (-1) u) ?_)
  show wpAny _ _ (if ((-1 : Int) == 0) = true then _ else _) _ _ s
  rw [if_neg (by decide)]
  refine wpAny_bind (HT.slicePart_ .none (wpAny_bind (HT.slicePart_ .none (wpAny_bind (wpAny_pure ?_)))))
  show wpAny _ _ (pure ((n : Int) - 1, (-1 : Int), Builtin.Slice.slicePlaces ((n : Int) - 1) (-1) (-1))) _ _ s
  rw [back_places]
  exact wpAny_pure k
theorem getItem_tuple_back {t sl : Addr} {its : Array Value} {u : Tok} {Q : Value → Shared → Prop} (ht : IsTup s.heap t its) (hs : s.heap.IsSliceOf sl .none .none (.int (-1) u))
    (k : Q (.ref s.heap.objs.size) { s with heap := s.heap.push { cls := .type "tuple", data := .seq its.toList.reverse.toArray } }) (hz : its.size ≤ sizeLine) : wpAny (model P w) A (getItem (.ref t) (.ref sl)) Q E s := by
  have fits : sizeOk (.seq its.toList.reverse.toArray) := by
    show its.toList.reverse.toArray.size ≤ sizeLine
    rw [List.size_toArray, List.length_reverse, Array.length_toList]
    exact hz
  obtain ⟨so, ho, hc, hd⟩ := id hs
  have ty : s.TypeIs (.ref sl) "slice" := ⟨so, ho, hc⟩
  unfold getItem
  try with_reducible refine wpAny_holding ?_
  first | refine wpAny_bind (wpAny_pure ?_) | skip
  refine wpAny_bind (wpAny_sequenceKey ht.typeIs (by decide) ?_)
  refine wpAny_bind (wpAny_callSpecial?_slot (name := "__getitem__") ht.typeIs PyProof.Rows.slot_tuple_getitem (wpAny_call_entry PyProof.Rows.slot_tuple_getitem ht.typeIs entry_tuple_getitem ?_ (args_tuple_getitem _ _)))
  show wpAny _ _ (Builtin.Tuple.tupleItemsOf (.ref t) >>= _) _ _ s
  refine wpAny_bind (tupleItemsOf_ ht (wpAny_bind (wpAny_typeOf ty ?_)))
  rw [if_pos (by decide)]
  refine wpAny_bind (back_applied hs ?_)
  have no : ¬ (((its.size : Int) - 1 == 0 && (-1 : Int) == 1 && its.size == its.size) = true) := by simp
  show wpAny _ _ (if ((its.size : Int) - 1 == 0 && (-1 : Int) == 1 && its.size == its.size) = true then _ else _) _ _ s
  rw [if_neg no]
  rw [back_pick]
  first
    | exact wpAny_bind (m := Builtin.Tuple.tupleExact _) (wpAny_newObj_type (wpAny_pure ⟨_, rfl, wpAny_pure k⟩) fits)
    | exact wpAny_bind (m := Builtin.Tuple.tupleExact _) (wpAny_newObj_type (wpAny_bind (wpAny_pure (wpAny_pure ⟨_, rfl, wpAny_pure k⟩))) fits)
    | exact wpAny_bind (wpAny_bind (m := Builtin.Tuple.tupleExact _) (wpAny_newObj_type (wpAny_pure (wpAny_pure ⟨_, rfl, wpAny_pure k⟩)) fits))
    | exact wpAny_bind (wpAny_bind (m := Builtin.Tuple.tupleExact _) (wpAny_newObj_type (wpAny_pure ⟨_, rfl, wpAny_pure k⟩) fits))
end
section
variable {Gc : Cls} {G : Glob} {X : Cx} {Wx : WX} {F : FnT} {L : LamT} {A : ActT} {a : C} {ea : Expr} {pos p1 p2 p3 : Pos}
def tRevT (K : PySem.W.Frag) (te : TE) : TE := fun σ H Q => te σ H fun x H1 => ∃ a xs, x = .ref a ∧ SqT K H1 a xs ∧ ∀ p, H1 p = none → Q (.ref p) (upd H1 p (.tup xs.reverse))
theorem pe_revT {te : TE} {k : Nat} (he : PE X ea te) : PE X (.Subscript ea (.Slice none none (some (.UnaryOp .USub (.Constant (.int 1) k p1) p2)) p3) pos) (tRevT X.K te) := by
  refine ⟨fun pins s σ H Q I h => ?_⟩
  refine Subscript_ (thn (he.run pins s σ H _ I h) fun v s1 ⟨x, H1, I1, r1, l, xs, ex, hx, q⟩ => ?_)
  subst ex
  cases r1
  have st : PO X (some (.UnaryOp .USub (.Constant (.int 1) k p1) p2)) (tPart (tUn (rU fun i => .int (-i)) (tC (.int 1)))) := po_some (pe_un un_neg pe_int)
  refine wpAny_Slice (thn (po_none.run pins s1 σ H1 (fun o H2 => o = none ∧ H2 = H1) I1 ⟨rfl, rfl⟩) fun vl s2 ⟨lo, H2, I2, pl, elo, e2⟩ => ?_)
  subst elo e2
  refine thn (po_none.run pins s2 σ H2 (fun o H3 => o = none ∧ H3 = H2) I2 ⟨rfl, rfl⟩) fun vu s3 ⟨hi, H3, I3, pu, ehi, e3⟩ => ?_
  subst ehi e3
  refine thn (st.run pins s3 σ H3 (fun o H4 => o = some (-1) ∧ H4 = H3) I3 ⟨1, rfl, -1, rfl, rfl, rfl⟩) fun vs s4 ⟨so, H4, I4, ps, eso, e4⟩ => ?_
  subst eso e4
  have I5 : L2.Inv X pins σ H4 { s4 with heap := s4.heap.push { cls := .type "slice", data := .fields #[vl, vu, vs] } } := I4.kept (t' := s4.toks) fun b ob q => Heap.get?_push_of_some _ q
  obtain ⟨its, r, ht, hz⟩ := I5.tuple hx
  show wpAny (model X.prog X.w) X.A (subscriptTail ea (.Slice none none (some (.UnaryOp .USub (.Constant (.int 1) k p1) p2)) p3) (.ref l) (.ref s4.heap.objs.size)) (EP X pins σ Q) X.xe { s4 with heap := s4.heap.push { cls := .type "slice", data := .fields #[vl, vu, vs] } }
  refine tail_any (ops := [.ref l, .ref s4.heap.objs.size]) ht.typeIs (PyProof.Rows.slot_tuple_getitem.lookup) ?_ (by with_unfolding_all rfl)
  cases pl
  cases pu
  cases ps
  have hl := r.length
  refine getItem_tuple_back ht (Heap.IsSliceOf.new _ _ _ _) ?_ (by rw [List.size_toArray]; omega)
  refine ⟨.ref _, _, I5.laid (t' := s4.toks) (o := .tup xs.reverse) (fun b ob q => Heap.get?_push_of_some _ q) (Nat.le_refl _) ?_, rfl, q _ (I5.hok.fresh (Nat.le_refl _))⟩
  exact ⟨by rw [List.length_reverse]; exact hz, its.reverse, r.reverse, _, Heap.get?_push_size _ rfl, rfl, 0, by simp⟩
theorem DE.rev {k : Nat} (ha : DE G X Wx F L A a ea) : DE G X Wx F L A (.rev a) (.Subscript ea (.Slice Option.none Option.none (some (.UnaryOp .USub (.Constant (.int 1) k p1) p2)) p3) pos) := by
  obtain ⟨t, ht, q⟩ := ha
  refine ⟨_, pe_revT ht, fun ρ σ B μ S H Q er rl o => ?_⟩
  rw [ev] at o
  refine q ρ σ B μ S H _ er rl (OKE.bind o fun w S1 v μ1 H1 e1 r1 w1 o1 => ?_)
  unfold revW at o1
  split at o1
  · rename_i xs
    obtain ⟨l, vs, rfl, h1, dd⟩ := dat_tup (H := H1) (L := Live B μ1 S1) w1
    refine ⟨l, vs, rfl, .inl (.inl h1), fun pt hpt => oke_ok o1 r1 (same_upd hpt) (tup_new r1 hpt ?_)⟩
    have rev : ∀ (xs : List PyData) (vs : List V), DatL H1 (Live B μ1 S1) xs vs → DatL H1 (Live B μ1 S1) xs.reverse vs.reverse := by
      intro xs
      induction xs with
      | nil =>
        intro vs d
        simp only [DatL] at d
        subst d
        exact DatL.nil
      | cons x xs ih =>
        intro vs d
        simp only [DatL] at d
        obtain ⟨v, r, rfl, d1, d2⟩ := d
        rw [List.reverse_cons, List.reverse_cons]
        exact (ih r d2).append (by simp only [DatL]; exact ⟨v, [], rfl, d1, rfl⟩)
    exact rev xs vs dd
  · exact o1.elim
end
end Ci

end
section
set_option linter.all false
set_option autoImplicit false
set_option maxHeartbeats 1000000
set_option maxRecDepth 100000
namespace Ci
open PySem L2 PySem.Spec PyProof.Rows
variable [kI : HasK]

mutual
theorem litD_ok : ∀ p : PyData, litD p = true → PyData.showable p = true ∧ PyData.leavesShort 1930 p = true ∧ PyData.hasDict p = false
  | .none, _ => by simp [PyData.showable, PyData.leavesShort, PyData.hasDict]
  | .bool _, _ => by simp [PyData.showable, PyData.leavesShort, PyData.hasDict]
  | .int i, h => by
    have h : i.natAbs.log2 < 1920 := by simpa only [litD, decide_eq_true_eq] using h
    have e := int_text_len_1921 h
    refine ⟨by simpa only [PyData.showable, decide_eq_true_eq] using h, ?_, by simp [PyData.hasDict]⟩
    simp only [PyData.leavesShort, decide_eq_true_eq, PyData.shown]
    have e2 : (PySem.Str.ofString (toString i)).length ≤ 1930 := by omega
    exact decide_eq_true e2
  | .str x, h => by
    refine ⟨by simp [PyData.showable], ?_, by simp [PyData.hasDict]⟩
    simpa only [litD, PyData.leavesShort] using h
  | .list xs, h => by
    have q := litDs_ok xs (by simpa only [litD] using h)
    simpa only [PyData.showable, PyData.leavesShort, PyData.hasDict] using q
  | .tuple xs, h => by
    have q := litDs_ok xs (by simpa only [litD] using h)
    simpa only [PyData.showable, PyData.leavesShort, PyData.hasDict] using q
  | .dict _, h => by simp only [litD] at h; cases h
theorem litDs_ok : ∀ xs : List PyData, litDs xs = true → PyData.showableAll xs = true ∧ PyData.leavesShortAll 1930 xs = true ∧ PyData.hasDictAll xs = false
  | [], _ => by simp [PyData.showableAll, PyData.leavesShortAll, PyData.hasDictAll]
  | x :: xs, h => by
    have h : litD x = true ∧ litDs xs = true := by simpa only [litDs, Bool.and_eq_true] using h
    obtain ⟨a1, a2, a3⟩ := litD_ok x h.1
    obtain ⟨b1, b2, b3⟩ := litDs_ok xs h.2
    simp [PyData.showableAll, PyData.leavesShortAll, PyData.hasDictAll, a1, a2, a3, b1, b2, b3]
end
theorem reprD_ok {p r : PyData} (h : reprD p = some r) : r = .str p.shown ∧ isSeqD p = true ∧ PyData.showable p = true ∧ PyData.hasDict p = false ∧ p.shown.length ≤ sizeLine ∧ p.depth ≤ 60 := by
  unfold reprD at h
  split at h
  · rename_i c
    cases h
    obtain ⟨l1, l2, l3⟩ := litD_ok p c.2.1
    have e := PyData.shown_le_bulk 1930 (by omega) p l2
    have := c.2.2.1
    exact ⟨rfl, c.1, l1, l3, by rw [szl]; omega, c.2.2.2⟩
  · cases h

section
variable {P : Program} {w : World} {A : Around} {E : Value → Shared → Prop} {s : Shared}
theorem repr_call {v : Value} {p : PyData} {as : List Addr} {Q : Value → Shared → Prop} (r : Reads s.heap v p as) (hq : isSeqD p = true) (hs : PyData.showable p = true) (hn : PyData.hasDict p = false) (hz : p.shown.length ≤ sizeLine) (hg : A.guards = some []) (hu : A.units + 1 + p.depth + 1 < cLine)
    (k : ∀ h' u tk, (∀ b o, s.heap.get? b = some o → h'.get? b = some o) → Q (.str p.shown u) { s with heap := h', toks := tk }) : wpAny (model P w) A (call (.builtin "repr") [v]) Q E s := by
  have hg1 : A.in1.guards = some [] := hg
  have hu1 : A.in1.units = A.units + 1 := rfl
  cases r with
  | none => cases hq
  | bool b => cases hq
  | int i t => cases hq
  | str x t => cases hq
  | dict => cases hq
  | @list a o vs n xs as' h1 h2 h3 h4 =>
    have hz' : (listText (PyData.shownAll xs)).length ≤ sizeLine := by simpa only [PyData.shown] using hz
    have hs' : PyData.showableAll xs = true := by simpa only [PyData.showable] using hs
    have hn' : PyData.hasDictAll xs = false := by simpa only [PyData.hasDict] using hn
    obtain ⟨bs, hb, hk⟩ := ReprAllK.of_readsAll (prog := P) (w := w) h4 hs' (fun z => absurd z (by rw [hn']; decide)) (fun t ht => Nat.le_trans (listText_mem_le ht) hz')
    have r : Reads s.heap (.ref a) (.list xs) _ := .list h1 h2 h3 h4
    have na : a ∉ bs := not_mem_of_deeper r (by simp only [PyData.depth]; omega) hb
    simp only [PyData.depth] at hu
    simp only [PyData.shown] at k
    refine call_repr_slot (T := "list") (idr := "list.__repr__") (by omega) ⟨o, h1, h2⟩ F.slot_list_repr.toG ?_
    obtain ⟨l⟩ := vs
    cases l with
    | nil =>
      have h4' : ReadsAll s.heap [] xs _ := h4
      cases h4'
      simp only [PyData.shownAll, listText_nil] at k
      exact call_list_repr_empty ⟨o, h1, h2⟩ h1 h3 ⟨_, _, rfl, k s.heap _ _ fun _ _ e => e⟩
    | cons x l =>
      exact call_list_reprK (prog := P) (w := w) h1 h2 h3 na (by simpa using hk.length_eq) (fun i y e => hk.item i y (by simpa using e)) hg1 (fun b _ => Clear.nil b) (by omega) (fun _ _ e => e) (fun h' u tk hk' => ⟨_, _, rfl, k h' u tk hk'⟩) hz'
  | @tuple a o vs n xs as' h1 h2 h3 h4 =>
    have hz' : (tupleText (PyData.shownAll xs)).length ≤ sizeLine := by simpa only [PyData.shown] using hz
    have hs' : PyData.showableAll xs = true := by simpa only [PyData.showable] using hs
    have hn' : PyData.hasDictAll xs = false := by simpa only [PyData.hasDict] using hn
    obtain ⟨bs, hb, hk⟩ := ReprAllK.of_readsAll (prog := P) (w := w) h4 hs' (fun z => absurd z (by rw [hn']; decide)) (fun t ht => Nat.le_trans (tupleText_mem_le ht) hz')
    have r : Reads s.heap (.ref a) (.tuple xs) _ := .tuple h1 h2 h3 h4
    have na : a ∉ bs := not_mem_of_deeper r (by simp only [PyData.depth]; omega) hb
    simp only [PyData.depth] at hu
    simp only [PyData.shown] at k
    refine call_repr_slot (T := "tuple") (idr := "tuple.__repr__") (by omega) ⟨o, h1, h2⟩ F.slot_tuple_repr ?_
    exact call_tuple_reprK (prog := P) (w := w) h1 h2 h3 na hk hg1 (fun b _ => Clear.nil b) (by omega) (fun _ _ e => e) (fun h' u tk hk' => ⟨_, _, rfl, k h' u tk hk'⟩) hz'
end
section
variable {Gc : Cls} {G : Glob} {X : Cx} {Wx : WX} {F : FnT} {L : LamT} {A : ActT}
def rRepr (K : PySem.W.Frag) : List V → Hp → VK → Prop := fun vs H Q => ∃ (v : V) (p r : PyData), vs = [v] ∧ Dp K H v p ∧ reprD p = some r ∧ Q (.str p.shown) H
theorem call_reprD (hgd : X.A.guards = some []) (hu : X.A.units + 64 < cLine) : CallR X (.builtin "repr") (rRepr X.K) := by
  rintro pins s σ H vs us Q I r ⟨v, p, rp, rfl, d, hp, q⟩
  obtain ⟨u, rfl, ru⟩ := vals1 r
  obtain ⟨as, rd⟩ := Dp.reads I p v u d ru
  obtain ⟨_, c1, c2, c3, c4, c5⟩ := reprD_ok hp
  exact repr_call rd c1 c2 c3 c4 hgd (by omega) fun h' t tk k => ⟨.str p.shown, H, I.kept (t' := tk) k, ⟨t, rfl⟩, q⟩
theorem CalOk.repr_ (hgd : X.A.guards = some []) (hu : X.A.units + 64 < cLine) : CalOk G X (.builtin "repr") (one1 (prim1 .repr_)) := CalOk.mk1 (call_reprD hgd hu) fun w v B μ S H E Q R r o => by
  unfold prim1 at o
  dsimp only at o
  split at o
  · rename_i p
    cases hp : reprD p with
    | none => rw [hp] at o; exact o.elim
    | some rp =>
      rw [hp] at o
      have e := (reprD_ok hp).1
      subst e
      exact ⟨v, p, _, rfl, Dat.dp p v r, hp, oke_here o R (by simp only [Dat])⟩
  · exact o.elim
end
end Ci

end
section
set_option linter.all false
set_option autoImplicit false
set_option maxHeartbeats 1000000
set_option maxRecDepth 100000
namespace Ci
open PySem L2
variable [kI : HasK]

def isStar : Expr → Bool
  | .Starred _ _ => true
  | _ => false
theorem star_cons {env : Env} {e : Expr} {es : List Expr} (h : isStar e = false) : starEach (e :: es) env = (false, eval e env) :: starEach es env := by
  cases e <;> first | rfl | (simp [isStar] at h)
theorem star_none {env : Env} {pos : Pos} : ∀ {es : List Expr}, es.all (fun e => !isStar e) = true → (backTo pos (starEach es env)).any (·.1) = false
  | [], _ => rfl
  | e :: es, h => by
    rw [List.all_cons, Bool.and_eq_true] at h
    have h1 : isStar e = false := by simpa using h.1
    rw [star_cons h1]
    show (false || (backTo pos (starEach es env)).any (·.1)) = false
    rw [star_none h.2]
    rfl
def isSetE : Expr → Bool
  | .Set _ _ _ => true
  | _ => false
theorem marks_no {op : CmpOp} {e : Expr} (h : isSetE e = false) : behindInMarks op e = false := by
  cases e <;> first | rfl | (simp [isSetE] at h)
theorem folded_no {e : Expr} {env : Env} (h : isSetE e = false) (x : Value) : foldedSetIterable e env x = pure x := by
  cases e <;> first | rfl | (simp [isSetE] at h)
def isSlice : Expr → Bool
  | .Slice _ _ _ _ => true
  | _ => false
theorem plain_ix {e : Expr} (h : isSlice e = false) : PlainIx e := fun o i => by
  cases e <;> first | rfl | (simp [isSlice] at h)
theorem no_sl {e : Expr} (h : isSlice e = false) : NoSl e := fun o i => by
  cases e <;> first | rfl | (simp [isSlice] at h)
/-- a test that is told by the value alone -/
def isVal : Expr → Bool
  | .UnaryOp .Not _ _ => false
  | .BoolOp _ _ _ => false
  | .IfExp _ _ _ _ => false
  | .Compare _ _ _ _ => false
  | _ => true
theorem val_true {e : Expr} {env : Env} (h : isVal e = true) : ∀ whole, isTrue e env whole = (do let v ← whole; standAt e.pos; holding [v] (truthy v)) := by
  intro whole
  cases e with
  | UnaryOp op x p => cases op <;> first | rfl | (simp [isVal] at h)
  | BoolOp => simp [isVal] at h
  | IfExp => simp [isVal] at h
  | Compare => simp [isVal] at h
  | _ => rfl

structure Gam where
  N : List Str
  sc : Scope
  fnB : Str → Bool
  gu : Bool
  hrd : Str → Option Nat
/-- the program: its defs, its numbers, the builtins that it leaves as they are, what it imports; which lists are to change -/
structure Sta where
  own : Str → Option Nat
  kw : Nat → Option (List Str)
  gu : Nat → Bool
  gcI : Str → Option Int
  bl : Str → Bool
  bf : Str → Option P2
  loc : Pos → Bool
def glB (sc : Scope) (x : Str) : Bool := match sc.names.lookup x with
  | some .globalImplicit => true
  | _ => false
def visB (sc : Scope) (x : Str) : Bool := match sc.names.lookup x with
  | some .local => true
  | some .cell => true
  | some .free => true
  | _ => false
def locB (sc : Scope) (x : Str) : Bool := match sc.names.lookup x with
  | some .local => true
  | _ => false
def locCB (sc : Scope) (x : Str) : Bool := match sc.names.lookup x with
  | some .local => true
  | some .cell => true
  | _ => false
def nmB (x : Str) : Bool := !(x == ("__debug__" : Str)) && !(x == ("__classdict__" : Str)) && !(decide (x = ("__name__" : Str)))
theorem glB_ok {X : Cx} {sc : Scope} {x : Str} (e : X.env.scope = sc) (h : glB sc x = true) : Gl X x := by
  unfold glB at h
  subst e
  split at h
  · assumption
  · cases h
theorem visB_ok {X : Cx} {sc : Scope} {x : Str} (e : X.env.scope = sc) (h : visB sc x = true) : Vis X.env.scope x := by
  unfold visB at h
  subst e
  split at h
  · exact .inl (by assumption)
  · exact .inr (.inl (by assumption))
  · exact .inr (.inr (by assumption))
  · cases h
theorem locCB_ok {X : Cx} {sc : Scope} {x : Str} (e : X.env.scope = sc) (h : locCB sc x = true) : L2.Loc X.env.scope x := by
  unfold locCB at h
  subst e
  split at h
  · exact .inl (by assumption)
  · exact .inr (by assumption)
  · cases h
theorem locB_ok {X : Cx} {sc : Scope} {x : Str} (e : X.env.scope = sc) (h : locB sc x = true) : X.env.scope.names.lookup x = some .local := by
  unfold locB at h
  subst e
  split at h
  · assumption
  · cases h
theorem nmB_ok {x : Str} (h : nmB x = true) : (x == ("__debug__" : Str)) = false ∧ (x == ("__classdict__" : Str)) = false ∧ x ≠ "__name__" := by
  unfold nmB at h
  simp only [Bool.and_eq_true, Bool.not_eq_true', decide_eq_false_iff_not] at h
  exact ⟨h.1.1, h.1.2, h.2⟩
def slot (N : List Str) (x : Str) : Option Nat := match N.findIdx? (· == x) with
  | some i => if decide (N[i]? = some x) = true then some i else none
  | none => none
theorem slot_ok {N : List Str} {x : Str} {i : Nat} (h : slot N x = some i) : N[i]? = some x := by
  unfold slot at h
  split at h
  · split at h
    · rename_i hd
      cases h
      exact of_decide_eq_true hd
    · cases h
  · cases h
def relS (scope sc : Scope) : Scope := { scope with names := scope.names.map fun (n, k) => if (k == .free && sc.kind == .function && sc.names.lookup n == some .cell) = true then (n, .cell) else (n, k) }
theorem relS_ok {scope : Scope} {env : Env} : relabel scope env = relS scope env.scope := rfl

def p2Id : P2 → Option String
  | .gcd => some "math.gcd"
  | _ => none
theorem p2Id_ok {G : Glob} {X : Cx} {p : P2} {id : String} (h : p2Id p = some id) : CalOk G X (.builtin id) (one2 (prim2 p)) := by
  cases p <;> first | (cases h; exact CalOk.gcd) | cases h
/-- the def of a lambda's body asks nothing but this -/
def lamB (params : Arguments) (sc scope : Scope) : Bool := params.posonlyargs.isEmpty && params.args.isEmpty && params.vararg.isNone && params.kwonlyargs.isEmpty && params.kw_defaults.isEmpty && params.kwarg.isNone && params.defaults.isEmpty && LamX.lamSB sc scope
structure OkX (D : Sta) (G : Glob) (F : FnT) (L : LamT) (k : Nat) (Γ : Gam) (X : Cx) (Wx : WX) : Prop where
  N : X.N = Γ.N
  nd : X.N.Nodup
  sc : X.env.scope = Γ.sc
  fn : ∀ y, Γ.fnB y = true → X.fn y = true
  calm : X.calm = true
  kk : X.K = kI.K
  un : X.A.units + 100 < cLine
  gd : Γ.gu = true → X.A.guards = some []
  tk : Takes X Wx
  rm : Room k X.A
  fng : FnG G X.prog X.w X.K X.mg X.base k F
  fnl : FnL G F
  bl : ∀ x, D.bl x = true → X.mg x = none
  bf : ∀ x p, D.bf x = some p → ∃ id, p2Id p = some id ∧ X.mg x = some (.builtin id)
  gI : ∀ x i, D.gcI x = some i → ∃ t, X.mg x = some (.int i t)
  lam : ∀ x fi, Γ.hrd x = some fi → ∀ (params : Arguments) (body : Expr) (scope : Scope) (p lpos pos : Pos) (b : C) (A : ActT), lamB params Γ.sc scope = true → (∀ (A : Around) (outer : List Env) (s : Shared) (H : Hp) (E : XK) (f c' : Addr), Room k (A.deeper (LamX.lamEnv X scope s.heap.objs.size f c')) → DE G (LamX.lamCx X A outer s H E scope f c') (fun cls d _ H => E cls d H) F noL noA b body) →
    DE G X Wx F L A (.lam fi b) (.Call (.Name x p) [.Lambda params body scope lpos] [] pos)
  ow : ∀ x f, D.own x = some f → ∃ i, G.fi f = some i ∧ i.name = x ∧ FOk X.K X.mg i ∧ i.gu = D.gu f ∧ ∀ ps, D.kw f = some ps → i.kw = true ∧ i.ps = ps

section
variable {D : Sta} {G : Glob} {X : Cx} {Wx : WX} {F : FnT} {L : LamT} {A : ActT} {k : Nat} {Γ : Gam} {ea eb e : Expr} {pos : Pos} {x : Str}

/-- the context of a comprehension's block -/
theorem OkX.blk (h : OkX D G F L k Γ X Wx) (s : Shared) (H : Hp) (scope : Scope) (cl : List (Str × Addr)) (C : Addr) (fp : List Addr) :
    OkX D G F L k ⟨Γ.N, relS scope Γ.sc, fun y => scope.names.lookup y == some .cell, Γ.gu, fun _ => none⟩ (X.blk s H scope (compEnvC scope cl C X.env) fp) (fun _ _ _ _ => False) where
  N := h.N
  nd := h.nd
  sc := by
    show relabel scope X.env = _
    rw [relS_ok, h.sc]
  fn := fun y q => q
  calm := h.calm
  kk := h.kk
  un := h.un
  gd := h.gd
  tk := takes_none5
  rm := h.rm
  fng := h.fng
  fnl := h.fnl
  bl := h.bl
  bf := h.bf
  gI := h.gI
  lam := fun x fi q => by cases q
  ow := h.ow

def bopOf : Operator → Option BOp
  | .Add => some .add
  | .Sub => some .sub
  | .Mult => some .mul
  | .FloorDiv => some .fdiv
  | .Mod => some .mod
  | .Pow => some .pow
  | _ => none
def copOf : CmpOp → Option COp
  | .Lt => some .lt
  | .LtE => some .le
  | .Gt => some .gt
  | .GtE => some .ge
  | .Eq => some .eq
  | .NotEq => some .ne
  | .In => some .isin
  | .NotIn => some .notin
  | .Is => some .isN
  | .IsNot => some .notN
def tyOf (x : Str) : Option Ty :=
  if x = ("int" : Str) then some .int else if x = ("bool" : Str) then some .bool else if x = ("tuple" : Str) then some .tup else if x = ("str" : Str) then some .str else if x = ("list" : Str) then some .lst else none
/-- a builtin of one argument; whether it is a type -/
def p1Of (x : Str) : Option (P1 × Bool) :=
  if x = ("len" : Str) then some (.len, false) else if x = ("int" : Str) then some (.int_, true) else if x = ("tuple" : Str) then some (.tuple_, true) else if x = ("list" : Str) then some (.list_, true)
  else if x = ("max" : Str) then some (.max_, false) else if x = ("min" : Str) then some (.min_, false) else if x = ("sum" : Str) then some (.sum_, false) else if x = ("sorted" : Str) then some (.sorted_, false) else if x = ("repr" : Str) then some (.repr_, false) else none
def p2Of (x : Str) : Option P2 := if x = ("max" : Str) then some .max2 else if x = ("min" : Str) then some .min2 else none
theorem OkX.un64 (h : OkX D G F L k Γ X Wx) : X.A.units + 64 < cLine := by
  have := h.un
  omega
theorem cop_ok (h : OkX D G F L k Γ X Wx) {op : CmpOp} {o : COp} (q : copOf op = some o) : CmpOk G X o op := by
  have u := h.un64
  have u2 : X.A.units + 65 < cLine := by
    have := h.un
    omega
  cases op <;> cases q
  · exact CmpOk.eq h.kk u
  · exact CmpOk.ne h.kk u
  · exact CmpOk.lt
  · exact CmpOk.le
  · exact CmpOk.gt
  · exact CmpOk.ge
  · exact CmpOk.isN
  · exact CmpOk.notN
  · exact CmpOk.isin u2
  · exact CmpOk.notin u2
theorem bop_ok {a b : C} {op : Operator} {o : BOp} (q : bopOf op = some o) (ha : DE G X Wx F L A a ea) (hb : DE G X Wx F L A b eb) : DE G X Wx F L A (.bin o a b) (.BinOp ea op eb pos) := by
  cases op <;> cases q
  · exact DE.add ha hb
  · exact DE.sub ha hb
  · exact DE.mul ha hb
  · exact DE.mod ha hb
  · exact DE.pow ha hb
  · exact DE.fdiv ha hb
theorem p1_ok (h : OkX D G F L k Γ X Wx) {a : C} {p : P1} {ty : Bool} {q1 : Pos} (q : p1Of x = some (p, ty)) (hgu : p = .repr_ → Γ.gu = true) (ha : DE G X Wx F L A a ea) (hs : isStar ea = false) (hg : glB Γ.sc x = true) (hb : D.bl x = true) : DE G X Wx F L A (.p1 p a) (.Call (.Name x q1) [ea] [] pos) := by
  have g := glB_ok h.sc hg
  have m := h.bl x hb
  have hda : DA G X Wx F L A [a] [ea] := DA.cons ha DA.nil (star_cons hs)
  have he := star_cons (env := X.env) (es := []) hs
  have hpl : (backTo pos (starEach [] X.env)).any (·.1) = false := star_none (es := []) rfl
  unfold p1Of at q
  repeat' (split at q)
  all_goals first | (cases q; done) | skip
  · rename_i e; subst e; cases q; exact DE.p1B (CalOk.len h.kk) hda g m (by decide +kernel) (by decide) (by decide) he hpl
  · rename_i e; subst e; cases q; exact DE.p1T CalOk.int_ hda g m (by decide +kernel) (by decide) (by decide) he hpl
  · rename_i e; subst e; cases q; exact DE.p1T CalOk.tuple_ hda g m (by decide +kernel) (by decide) (by decide) he hpl
  · rename_i e; subst e; cases q; exact DE.p1T (CalOk.list_ h.kk) hda g m (by decide +kernel) (by decide) (by decide) he hpl
  · rename_i e; subst e; cases q; exact DE.p1B (CalOk.max_ h.calm) hda g m (by decide +kernel) (by decide) (by decide) he hpl
  · rename_i e; subst e; cases q; exact DE.p1B (CalOk.min_ h.calm) hda g m (by decide +kernel) (by decide) (by decide) he hpl
  · rename_i e; subst e; cases q; exact DE.p1B (CalOk.sum_ h.calm) hda g m (by decide +kernel) (by decide) (by decide) he hpl
  · rename_i e; subst e; cases q; exact DE.p1B (CalOk.sorted_ h.kk h.un64) hda g m (by decide +kernel) (by decide) (by decide) he hpl
  · rename_i e; subst e; cases q; exact DE.p1B (CalOk.repr_ (h.gd (hgu rfl)) h.un64) hda g m (by decide +kernel) (by decide) (by decide) he hpl
theorem p2_ok (h : OkX D G F L k Γ X Wx) {a b : C} {p : P2} {q1 : Pos} (q : p2Of x = some p) (ha : DE G X Wx F L A a ea) (hb : DE G X Wx F L A b eb) (hs : isStar ea = false) (hs2 : isStar eb = false) (hg : glB Γ.sc x = true) (hbl : D.bl x = true) : DE G X Wx F L A (.p2 p a b) (.Call (.Name x q1) [ea, eb] [] pos) := by
  have g := glB_ok h.sc hg
  have m := h.bl x hbl
  have hda : DA G X Wx F L A [a, b] [ea, eb] := DA.cons ha (DA.cons hb DA.nil (star_cons hs2)) (star_cons hs)
  have he := star_cons (env := X.env) (es := [eb]) hs
  have hpl : (backTo pos (starEach [eb] X.env)).any (·.1) = false := star_none (es := [eb]) (by simp [hs2])
  unfold p2Of at q
  repeat' (split at q)
  all_goals first | (cases q; done) | skip
  · rename_i e; subst e; cases q; exact DE.p2B (CalOk.max2 h.calm) hda g m (by decide +kernel) (by decide) (by decide) he hpl
  · rename_i e; subst e; cases q; exact DE.p2B (CalOk.min2 h.calm) hda g m (by decide +kernel) (by decide) (by decide) he hpl
theorem p2f_ok (h : OkX D G F L k Γ X Wx) {a b : C} {p : P2} {q1 : Pos} (q : D.bf x = some p) (ha : DE G X Wx F L A a ea) (hb : DE G X Wx F L A b eb) (hs : isStar ea = false) (hs2 : isStar eb = false) (hg : glB Γ.sc x = true) (hn : nmB x = true) : DE G X Wx F L A (.p2 p a b) (.Call (.Name x q1) [ea, eb] [] pos) := by
  obtain ⟨id, h1, h2⟩ := h.bf x p q
  have hda : DA G X Wx F L A [a, b] [ea, eb] := DA.cons ha (DA.cons hb DA.nil (star_cons hs2)) (star_cons hs)
  exact DE.p2F (p2Id_ok h1) hda (glB_ok h.sc hg) h2 (nmB_ok hn).1 (star_cons (env := X.env) (es := [eb]) hs) (star_none (es := [eb]) (by simp [hs2]))
theorem isa_ok (h : OkX D G F L k Γ X Wx) {a : C} {t : Ty} {T : Str} {q1 q2 : Pos} (q : tyOf T = some t) (ha : DE G X Wx F L A a ea) (hs : isStar ea = false) (hg : glB Γ.sc "isinstance" = true) (hb : D.bl "isinstance" = true) (hg2 : glB Γ.sc T = true) (hb2 : D.bl T = true) : DE G X Wx F L A (.isa t a) (.Call (.Name "isinstance" q1) [ea, .Name T q2] [] pos) := by
  have g := glB_ok h.sc hg
  have m := h.bl _ hb
  have g2 := glB_ok h.sc hg2
  have m2 := h.bl _ hb2
  have he := star_cons (env := X.env) (es := [.Name T q2]) hs
  have he2 := star_cons (env := X.env) (e := .Name T q2) (es := []) rfl
  have hpl : (backTo pos (starEach [.Name T q2] X.env)).any (·.1) = false := star_none (es := [.Name T q2]) rfl
  unfold tyOf at q
  repeat' (split at q)
  all_goals first | (cases q; done) | skip
  · rename_i e; subst e; cases q; exact DE.isa ha g m g2 m2 (by decide +kernel) (by decide) (by decide) he he2 hpl
  · rename_i e; subst e; cases q; exact DE.isa ha g m g2 m2 (by decide +kernel) (by decide) (by decide) he he2 hpl
  · rename_i e; subst e; cases q; exact DE.isa ha g m g2 m2 (by decide +kernel) (by decide) (by decide) he he2 hpl
  · rename_i e; subst e; cases q; exact DE.isa ha g m g2 m2 (by decide +kernel) (by decide) (by decide) he he2 hpl
  · rename_i e; subst e; cases q; exact DE.isa ha g m g2 m2 (by decide +kernel) (by decide) (by decide) he he2 hpl
end
end Ci

end
section
set_option linter.all false
set_option autoImplicit false
set_option maxHeartbeats 1000000
set_option maxRecDepth 100000
namespace Ci
open PySem L2
variable [kI : HasK]

abbrev RecE := Gam → Expr → Option C
def dL (r : Expr → Option C) : List Expr → Option (List C)
  | [] => some []
  | e :: es => if isStar e = true then none else match r e, dL r es with
    | some c, some cs => some (c :: cs)
    | _, _ => none
/-- where a test is wanted -/
def tstE (r : Expr → Option C) (e : Expr) : Option C := match e with
  | .IfExp _ _ _ _ => none
  | e => r e
def boolE (an : Bool) (r : Expr → Option C) : List Expr → Option C
  | [] => none
  | [a] => tstE r a
  | a :: b :: t => match tstE r a, boolE an r (b :: t) with
    | some x, some y => some (if an = true then .and_ x y else .or_ x y)
    | _, _ => none
def optE (r : Expr → Option C) : Option Expr → Option (Option C)
  | none => some none
  | some e => (r e).map some
def tgNs (Γ : Gam) : List Expr → Option (List Nat)
  | [] => some []
  | .Name x _ :: es => match slot Γ.N x, tgNs Γ es with
    | some i, some is => if (locCB Γ.sc x && (Γ.fnB x || locB Γ.sc x)) = true then some (i :: is) else none
    | _, _ => none
  | _ :: _ => none
def tgE (Γ : Gam) : Expr → Option Tg
  | .Name x p => match tgNs Γ [.Name x p] with
    | some [i] => some (.one i)
    | _ => none
  | .Tuple es _ _ => (tgNs Γ es).map .tup
  | _ => none
def iterE (D : Sta) (Γ : Gam) (r : Expr → Option C) (e : Expr) : Option C := match e with
  | .Call (.Name x _) [a] [] _ => if x = ("range" : Str) then (if (glB Γ.sc "range" && D.bl "range" && !isStar a) = true then (r a).map .range1 else none) else r e
  | .Call (.Name x _) [a, b] [] _ => if x = ("range" : Str) then (if (glB Γ.sc "range" && D.bl "range" && !isStar a && !isStar b) = true then (match r a, r b with
      | some c, some d => some (.range2 c d)
      | _, _ => none) else none) else r e
  | .Set _ _ _ => none
  | e => r e
def ownOf (N : List Str) (scope : Scope) : List (Str × Nat) := scope.names.filterMap fun (n, k) => match k with
  | .local => (slot N n).map fun i => (n, i)
  | .cell => (slot N n).map fun i => (n, i)
  | _ => none
def tgInB : Tg → List Nat → Bool
  | .one i, own => decide (i ∈ own)
  | .tup is, own => is.all fun i => decide (i ∈ own)
theorem tgInB_ok {t : Tg} {own : List Nat} (h : tgInB t own = true) : tgIn t own := by
  cases t with
  | one i => exact of_decide_eq_true (p := i ∈ own) h
  | tup is => exact fun i hi => of_decide_eq_true (p := i ∈ own) (List.all_eq_true.mp h i hi)
def tstO (r : Expr → Option C) : List Expr → Option (Option C)
  | [] => some none
  | [t] => (tstE r t).map some
  | _ => none
def gamC (Γ : Gam) (scope : Scope) : Gam := ⟨Γ.N, relS scope Γ.sc, fun y => scope.names.lookup y == some .cell, Γ.gu, fun _ => none⟩
def gamL (Γ : Gam) (scope : Scope) : Gam := ⟨Γ.N, scope, fun _ => false, false, fun _ => none⟩
def compE (D : Sta) (r : RecE) (Γ : Gam) (elt tg iter : Expr) (ifs : List Expr) (scope : Scope) (pos : Pos) : Option C :=
  match iterE D Γ (r Γ) iter, tgE (gamC Γ scope) tg, tstO (r (gamC Γ scope)) ifs, r (gamC Γ scope) elt with
  | some it, some t, some u, some c => if (blkC Γ.N Γ.sc scope (ownOf Γ.N scope) && tgInB t ((ownOf Γ.N scope).map (·.2)) && !isSetE iter) = true then some (.comp (D.loc pos) ((ownOf Γ.N scope).map (·.2)) t it u c) else none
  | _, _, _, _ => none
def strK : List (Option Expr) → Option (List Str)
  | [] => some []
  | some (.Constant (.str s) _ _) :: r => (strK r).map (s :: ·)
  | _ => none
def kwNs : List Keyword → Option (List Str × List Expr)
  | [] => some ([], [])
  | ⟨some n, e, _⟩ :: r => match kwNs r with
    | some (ns, es) => some (n :: ns, e :: es)
    | none => none
  | _ => none
def dKw (r : Expr → Option C) : List Keyword → Option (List C)
  | [] => some []
  | ⟨some _, e, _⟩ :: t => match r e, dKw r t with
    | some c, some cs => some (c :: cs)
    | _, _ => none
  | _ => none
def callE (D : Sta) (r : RecE) (Γ : Gam) (x : Str) (es : List Expr) (kws : List Keyword) : Option C :=
  if (glB Γ.sc x && nmB x) = true then match D.own x with
    | some f => if (!D.gu f || Γ.gu) = true then match kws with
      | [] => (dL (r Γ) es).map (.call f)
      | kws => match es, D.kw f, dKw (r Γ) kws with
        | [], some ps, some cs => if kws.map (·.arg) = ps.map some then some (.call f cs) else none
        | _, _, _ => none
      else none
    | none => match es, kws with
      | [a], [] => if (D.bl x && !isStar a) = true then (match p1Of x with
          | some (p, _) => if (p = .repr_ ∧ Γ.gu = false) then none else (r Γ a).map (.p1 p)
          | none => none) else none
      | [a, b], [] => if (!isStar a && !isStar b) = true then (match D.bf x with
          | some p => (match r Γ a, r Γ b with
            | some c, some d => some (.p2 p c d)
            | _, _ => none)
          | none => if x = ("isinstance" : Str) then (match b with
              | .Name T _ => if (D.bl "isinstance" && glB Γ.sc T && D.bl T) = true then (match tyOf T, r Γ a with
                | some t, some c => some (.isa t c)
                | _, _ => none) else none
              | _ => none)
            else if D.bl x = true then (match p2Of x, r Γ a, r Γ b with
              | some p, some c, some d => some (.p2 p c d)
              | _, _, _ => none) else none) else none
      | _, _ => none
  else none
def subE (D : Sta) (r : Expr → Option C) (a i : Expr) : Option C := match i with
  | .Slice none none (some (.UnaryOp .USub (.Constant (.int 1) _ _) _)) _ => (r a).map .rev
  | .Slice lo hi none _ => match r a, optE r lo, optE r hi with
    | some c, some l, some h => some (.slc c l h)
    | _, _, _ => none
  | .Slice _ _ _ _ => none
  | .Constant (.str _) _ _ => match r a, r i with
    | some c, some d => some (.dget c d)
    | _, _ => none
  | i => match r a, r i with
    | some c, some d => some (.idx c d)
    | _, _ => none
def stepE (D : Sta) (r : RecE) (Γ : Gam) (e : Expr) : Option C := match e with
  | .Name x _ => if visB Γ.sc x = true then (if nmB x = true then (slot Γ.N x).map .var else none) else if (glB Γ.sc x && nmB x) = true then (D.gcI x).map fun i => .cst (.int i) else none
  | .Constant (.int i) _ _ => some (.cst (.int i))
  | .Constant (.bool b) _ _ => some (.cst (.bool b))
  | .Constant .none _ _ => some (.cst .none)
  | .Constant (.str s) _ _ => some (.cst (.str s))
  | .Tuple es _ _ => (dL (r Γ) es).map .tup
  | .List es pos => (dL (r Γ) es).map (.lst (D.loc pos))
  | .Dict ks es _ => match strK ks, dL (r Γ) es with
    | some ns, some cs => if ks.length = es.length ∧ ks ≠ [] ∧ ks.length ≤ 15 ∧ ns.Nodup then some (.dict ns cs) else none
    | _, _ => none
  | .BinOp a op b _ => match bopOf op, r Γ a, r Γ b with
    | some o, some c, some d => some (.bin o c d)
    | _, _, _ => none
  | .UnaryOp .USub a _ => (r Γ a).map .neg
  | .UnaryOp .Not a _ => (tstE (r Γ) a).map .not_
  | .BoolOp op es _ => boolE (match op with
    | .And => true
    | .Or => false) (r Γ) es
  | .IfExp t a b _ => match tstE (r Γ) t, r Γ a, r Γ b with
    | some c, some d, some f => some (.ife c d f)
    | _, _, _ => none
  | .Compare a [op] [b] _ => if isSetE b = true then none else match copOf op, r Γ a, r Γ b with
    | some o, some c, some d => some (.cmp o c d)
    | _, _, _ => none
  | .Compare a [op, op'] [b, z] _ => if (isSetE b || isSetE z) = true then none else match copOf op, copOf op', r Γ a, r Γ b, r Γ z with
    | some o, some p, some c, some d, some f => some (.chain o p c d f)
    | _, _, _, _, _ => none
  | .Call (.Name x _) [.Lambda params body scope _] [] _ => match Γ.hrd x, r (gamL Γ scope) body with
    | some fi, some b => if lamB params Γ.sc scope = true then some (.lam fi b) else none
    | _, _ => none
  | .Call (.Name x _) [.Call (.Name y _) [a] [] _] [] _ => if x = ("sorted" : Str) ∧ y = ("set" : Str) then (if (glB Γ.sc "sorted" && D.bl "sorted" && glB Γ.sc "set" && D.bl "set" && !isStar a) = true then (r Γ a).map .sortSet else none) else match e with
    | .Call _ es kws _ => callE D r Γ x es kws
    | _ => none
  | .Call (.Name x _) es kws _ => callE D r Γ x es kws
  | .Subscript a i _ => subE D (r Γ) a i
  | .ListComp elt [⟨tg, iter, ifs, k⟩] scope pos => if k = 0 then compE D r Γ elt tg iter ifs scope pos else none
  | _ => none
def cE (D : Sta) : Nat → RecE
  | 0 => fun _ _ => none
  | n + 1 => stepE D (cE D n)
end Ci

end
section
set_option linter.all false
set_option autoImplicit false
set_option maxHeartbeats 2000000
set_option maxRecDepth 100000
namespace Ci
open PySem L2
variable [kI : HasK]

section
variable {D : Sta} {G : Glob} {X : Cx} {Wx : WX} {F : FnT} {L : LamT} {A : ActT} {k : Nat} {Γ : Gam} {ea eb e : Expr} {pos : Pos} {x : Str}

def isIfE : Expr → Bool
  | .IfExp _ _ _ _ => true
  | _ => false
/-- sound terms -/
structure Snd (D : Sta) (G : Glob) (F : FnT) (r : RecE) : Prop where
  e : ∀ (L : LamT) (A : ActT) (k : Nat) (Γ : Gam) (X : Cx) (Wx : WX) (e : Expr) (c : C), OkX D G F L k Γ X Wx → r Γ e = some c → DE G X Wx F L A c e
  t : ∀ (L : LamT) (A : ActT) (k : Nat) (Γ : Gam) (X : Cx) (Wx : WX) (e : Expr) (c : C), OkX D G F L k Γ X Wx → isIfE e = false → r Γ e = some c → DT G X Wx F L A c e

variable {r : RecE}
theorem tst_ok (S : Snd D G F r) (h : OkX D G F L k Γ X Wx) {c : C} (q : tstE (r Γ) e = some c) : DT G X Wx F L A c e := by
  unfold tstE at q
  split at q
  · cases q
  · rename_i hn
    refine S.t L A k Γ X Wx e c h ?_ q
    cases e <;> first | rfl | exact absurd rfl (hn _ _ _ _)
theorem tst_e {f : Expr → Option C} {c : C} (q : tstE f e = some c) : f e = some c := by
  unfold tstE at q
  split at q
  · cases q
  · exact q
theorem dL_ok (S : Snd D G F r) (h : OkX D G F L k Γ X Wx) : ∀ {es : List Expr} {cs : List C}, dL (r Γ) es = some cs → DA G X Wx F L A cs es ∧ es.all (fun e => !isStar e) = true ∧ cs.length = es.length
  | [], cs, q => by
    cases q
    exact ⟨DA.nil, rfl, rfl⟩
  | e :: es, cs, q => by
    unfold dL at q
    split at q
    · cases q
    · rename_i hs
      have hs : isStar e = false := by simpa using hs
      split at q
      · rename_i c cs' h1 h2
        cases q
        obtain ⟨a1, a2, a3⟩ := dL_ok S h h2
        exact ⟨DA.cons (S.e L A k Γ X Wx e c h h1) a1 (star_cons hs), by rw [List.all_cons, hs, a2]; rfl, by rw [List.length_cons, List.length_cons, a3]⟩
      · cases q
theorem bool_ok (S : Snd D G F r) (h : OkX D G F L k Γ X Wx) {op : BoolOp} {an : Bool} (ho : an = match op with
    | .And => true
    | .Or => false) : ∀ {es : List Expr} {c : C}, boolE an (r Γ) es = some c → DE G X Wx F L A c (.BoolOp op es pos) ∧ DW G X Wx F L A c (.BoolOp op es pos)
  | [], c, q => by cases q
  | [a], c, q => by
    have q : tstE (r Γ) a = some c := q
    have he := S.e L A k Γ X Wx a c h (tst_e q)
    have ht := tst_ok (A := A) S h q
    refine ⟨DE.one he, ?_⟩
    cases op
    · exact DW.and1 ht
    · exact DW.or1 ht
  | a :: b :: t, c, q => by
    unfold boolE at q
    split at q
    · rename_i u v h1 h2
      cases q
      have hu := tst_ok (A := A) S h h1
      have hue := S.e L A k Γ X Wx a u h (tst_e h1)
      obtain ⟨v1, v2⟩ := bool_ok S h ho h2
      subst ho
      cases op
      · exact ⟨DE.and hue v1, DW.and hu v2⟩
      · exact ⟨DE.or hue v1, DW.or hu v2⟩
    · cases q
theorem opt_ok (S : Snd D G F r) (h : OkX D G F L k Γ X Wx) {o : Option Expr} {c : Option C} (q : optE (r Γ) o = some c) : DO G X Wx F L A c o := by
  cases o with
  | none => cases q; exact DO.none
  | some e =>
    have q : (r Γ e).map some = some c := q
    cases hr : r Γ e with
    | none => rw [hr] at q; cases q
    | some d => rw [hr] at q; cases q; exact DO.some (S.e L A k Γ X Wx e d h hr)
theorem tgNs_ok (hN : X.N = Γ.N) (hnd : X.N.Nodup) (hsc : X.env.scope = Γ.sc) (hfn : ∀ y, Γ.fnB y = true → X.fn y = true) : ∀ {es : List Expr} {is : List Nat}, tgNs Γ es = some is → DGs X is es ∧ (assignEach es X.env).length = is.length ∧ (assignEach es X.env).findIdx? (·.1) = none
  | [], is, q => by
    cases q
    exact ⟨DGs.nil, rfl, rfl⟩
  | e :: es, is, q => by
    cases e with
    | Name x p =>
      unfold tgNs at q
      split at q
      · rename_i i js h1 h2
        split at q
        · rename_i hb
          cases q
          rw [Bool.and_eq_true, Bool.or_eq_true] at hb
          obtain ⟨a1, a2, a3⟩ := tgNs_ok hN hnd hsc hfn h2
          have hl : X.fn x = true ∨ X.env.scope.names.lookup x = some .local := hb.2.elim (fun z => .inl (hfn x z)) fun z => .inr (locB_ok hsc z)
          refine ⟨DGs.cons hnd (by rw [hN]; exact slot_ok h1) (locCB_ok hsc hb.1) hl a1 rfl, ?_, ?_⟩
          · show (assignEach es X.env).length + 1 = _
            rw [a2, List.length_cons]
          · show List.findIdx? _ ((false, assign (.Name x p) X.env) :: assignEach es X.env) = none
            rw [List.findIdx?_cons]
            simp [a3]
        · cases q
      · cases q
    | _ => cases q
theorem tg_ok (hc : X.calm = true) (hN : X.N = Γ.N) (hnd : X.N.Nodup) (hsc : X.env.scope = Γ.sc) (hfn : ∀ y, Γ.fnB y = true → X.fn y = true) {t : Tg} (q : tgE Γ e = some t) : DG X t e := by
  unfold tgE at q
  split at q
  · rename_i x p
    split at q
    · rename_i i hi
      cases q
      unfold tgNs at hi
      split at hi
      · rename_i j js h1 h2
        split at hi
        · rename_i hb
          cases h2
          cases hi
          rw [Bool.and_eq_true, Bool.or_eq_true] at hb
          exact DG.one hnd (by rw [hN]; exact slot_ok h1) (locCB_ok hsc hb.1) (hb.2.elim (fun z => .inl (hfn x z)) fun z => .inr (locB_ok hsc z))
        · cases hi
      · cases hi
    · cases q
  · rename_i es n p
    cases hi : tgNs Γ es with
    | none => rw [hi] at q; cases q
    | some is =>
      rw [hi] at q
      cases q
      obtain ⟨a1, a2, a3⟩ := tgNs_ok hN hnd hsc hfn hi
      exact DG.tup hc a1 a2 a3
  · cases q
theorem iter_ok (S : Snd D G F r) (h : OkX D G F L k Γ X Wx) {tg : Expr} {c : C} (q : iterE D Γ (r Γ) e = some c) : DI G X Wx F L A c tg e := by
  unfold iterE at q
  split at q
  · rename_i y p1 a p2
    split at q
    · rename_i hx
      subst hx
      split at q
      · rename_i hb
        simp only [Bool.and_eq_true, Bool.not_eq_true'] at hb
        cases hr : r Γ a with
        | none => rw [hr] at q; cases q
        | some d =>
          rw [hr] at q
          cases q
          exact DI.range1 (DA.cons (S.e L A k Γ X Wx a d h hr) DA.nil (star_cons hb.2)) (glB_ok h.sc hb.1.1) (h.bl _ hb.1.2) (star_cons hb.2)
      · cases q
    · exact DI.seq (S.e L A k Γ X Wx _ c h q)
  · rename_i y p1 a b p2
    split at q
    · rename_i hx
      subst hx
      split at q
      · rename_i hb
        simp only [Bool.and_eq_true, Bool.not_eq_true'] at hb
        split at q
        · rename_i c1 d1 h1 h2
          cases q
          refine DI.range2 (DA.cons (S.e L A k Γ X Wx a c1 h h1) (DA.cons (S.e L A k Γ X Wx b d1 h h2) DA.nil (star_cons hb.2)) (star_cons hb.1.2)) (glB_ok h.sc hb.1.1.1) (h.bl _ hb.1.1.2) ?_ (star_cons hb.2)
          rw [star_cons hb.1.2, star_cons hb.2]
          rfl
        · cases q
      · cases q
    · exact DI.seq (S.e L A k Γ X Wx _ c h q)
  · cases q
  · exact DI.seq (S.e L A k Γ X Wx _ c h q)
theorem own_fst {N : List Str} {scope : Scope} : True := trivial
theorem comp_ok (S : Snd D G F r) (h : OkX D G F L k Γ X Wx) {elt tg iter : Expr} {ifs : List Expr} {scope : Scope} {c : C} (q : compE D r Γ elt tg iter ifs scope pos = some c) : DE G X Wx F L A c (.ListComp elt [⟨tg, iter, ifs, 0⟩] scope pos) := by
  unfold compE at q
  split at q
  · rename_i it t u d h1 h2 h3 h4
    split at q
    · rename_i hb
      cases q
      simp only [Bool.and_eq_true, Bool.not_eq_true'] at hb
      have bk : BlkOk X.N X.env.scope scope (ownOf Γ.N scope) := by
        rw [h.N, h.sc]
        exact blkOk_by hb.1.1
      refine DE.comp h.calm h.nd (iter_ok S h h1) bk (tgInB_ok hb.1.2) (fun s H Cc cl fp => ?_) (fun s H Cc cl fp => ?_) (fun s H Cc cl fp => ?_) (folded_no hb.2)
      · have o := h.blk s H scope cl Cc fp
        exact tg_ok (Γ := gamC Γ scope) o.calm o.N o.nd o.sc o.fn h2
      · have o := h.blk s H scope cl Cc fp
        unfold tstO at h3
        split at h3
        · cases h3
          exact DTs.none
        · rename_i e1
          cases hr : tstE (r (gamC Γ scope)) e1 with
          | none => rw [hr] at h3; cases h3
          | some d1 =>
            rw [hr] at h3
            cases h3
            exact DTs.one (tst_ok S (Γ := gamC Γ scope) o hr)
        · cases h3
      · exact S.e L A k (gamC Γ scope) _ _ elt d (h.blk s H scope cl Cc fp) h4
    · cases q
  · cases q
theorem kw_all {env : Env} : ∀ {kws : List Keyword} {ps : List Str}, kws.map (·.arg) = ps.map some → ((backToKw pos (keywordEach kws env)).all (·.1.isSome) = true ∧ (backToKw pos (keywordEach kws env)).filterMap (·.1) = ps ∧ (backToKw pos (keywordEach kws env)).any (·.1.isNone) = false)
  | [], [], _ => ⟨rfl, rfl, rfl⟩
  | [], p :: ps, h => by cases h
  | q :: kws, [], h => by cases h
  | ⟨n, e, p⟩ :: kws, a :: ps, h => by
    rw [List.map_cons, List.map_cons, List.cons.injEq] at h
    obtain ⟨h1, h2⟩ := h
    have h1 : n = some a := h1
    subst h1
    obtain ⟨a1, a2, a3⟩ := kw_all (env := env) h2
    refine ⟨?_, ?_, ?_⟩
    · show (true && (backToKw pos (keywordEach kws env)).all (·.1.isSome)) = true
      rw [a1]; rfl
    · show a :: (backToKw pos (keywordEach kws env)).filterMap (·.1) = _
      rw [a2]
    · show (false || (backToKw pos (keywordEach kws env)).any (·.1.isNone)) = false
      rw [a3]; rfl
theorem dKw_ok (S : Snd D G F r) (h : OkX D G F L k Γ X Wx) : ∀ {kws : List Keyword} {cs : List C}, dKw (r Γ) kws = some cs → DK G X Wx F L A cs kws
  | [], cs, q => by cases q; exact DK.nil
  | ⟨none, e, p⟩ :: kws, cs, q => by cases q
  | ⟨some n, e, p⟩ :: kws, cs, q => by
    unfold dKw at q
    split at q
    · rename_i c cs' h1 h2
      cases q
      exact DK.cons (S.e L A k Γ X Wx e c h h1) (dKw_ok S h h2)
    · cases q
theorem call_ok (S : Snd D G F r) (h : OkX D G F L k Γ X Wx) {es : List Expr} {kws : List Keyword} {p : Pos} {c : C} (q : callE D r Γ x es kws = some c) : DE G X Wx F L A c (.Call (.Name x p) es kws pos) := by
  unfold callE at q
  split at q
  · rename_i hgn
    rw [Bool.and_eq_true] at hgn
    obtain ⟨hg, hn⟩ := hgn
    have nm := nmB_ok hn
    split at q
    · rename_i f hf
      obtain ⟨i, hi, rfl, ho, hgu, hkw⟩ := h.ow x f hf
      split at q
      · rename_i hb
        have gd : i.gu = true → X.A.guards = some [] := fun z => h.gd (by
          rw [Bool.or_eq_true] at hb
          rcases hb with hb | hb
          · rw [hgu] at z
            rw [z] at hb
            cases hb
          · exact hb)
        split at q
        · cases hr : dL (r Γ) es with
          | none => rw [hr] at q; cases q
          | some cs =>
            rw [hr] at q
            cases q
            obtain ⟨a1, a2, a3⟩ := dL_ok (A := A) S h hr
            cases es with
            | nil =>
              have e : cs = [] := List.length_eq_zero_iff.mp a3
              subst e
              exact DE.call0 h.fng h.fnl hi ho h.rm gd h.tk (glB_ok h.sc hg) nm.1
            | cons e es =>
              rw [List.all_cons, Bool.and_eq_true] at a2
              have hs : isStar e = false := by simpa using a2.1
              exact DE.calls h.fng h.fnl hi ho h.rm gd h.tk (glB_ok h.sc hg) a1 nm.1 (star_cons hs) (star_none a2.2)
        · split at q
          · rename_i ps cs h1 h2
            split at q
            · rename_i hk
              cases q
              obtain ⟨k1, k2⟩ := hkw ps h1
              obtain ⟨a1, a2, a3⟩ := kw_all (env := X.env) (pos := pos) hk
              exact DE.callK h.fng h.fnl hi ho h.rm gd h.tk (glB_ok h.sc hg) k1 (dKw_ok S h h2) nm.1 a1 (by rw [a2, k2]) (by rw [a3]; rfl)
            · cases q
          · cases q
      · cases q
    · split at q
      · rename_i a
        split at q
        · rename_i hb
          rw [Bool.and_eq_true] at hb
          have hs : isStar a = false := by simpa using hb.2
          split at q
          · rename_i p1 ty hp
            split at q
            · cases q
            · rename_i hng
              cases hr : r Γ a with
              | none => rw [hr] at q; cases q
              | some d =>
                rw [hr] at q
                cases q
                exact p1_ok h hp (fun z => by
                  cases hgu : Γ.gu with
                  | true => rfl
                  | false => exact absurd ⟨z, hgu⟩ hng) (S.e L A k Γ X Wx a d h hr) hs hg hb.1
          · cases q
        · cases q
      · rename_i a b
        split at q
        · rename_i hb
          simp only [Bool.and_eq_true, Bool.not_eq_true'] at hb
          split at q
          · rename_i p2 hp
            split at q
            · rename_i c1 d1 h1 h2
              cases q
              exact p2f_ok h hp (S.e L A k Γ X Wx a c1 h h1) (S.e L A k Γ X Wx b d1 h h2) hb.1 hb.2 hg hn
            · cases q
          · split at q
            · rename_i hx
              subst hx
              split at q
              · rename_i T p2
                split at q
                · rename_i hb2
                  simp only [Bool.and_eq_true] at hb2
                  split at q
                  · rename_i t c1 h1 h2
                    cases q
                    exact isa_ok h h1 (S.e L A k Γ X Wx a c1 h h2) hb.1 hg hb2.1.1 hb2.1.2 hb2.2
                  · cases q
                · cases q
              · cases q
            · split at q
              · rename_i hbl
                split at q
                · rename_i p2 c1 d1 h1 h2 h3
                  cases q
                  exact p2_ok h h1 (S.e L A k Γ X Wx a c1 h h2) (S.e L A k Γ X Wx b d1 h h3) hb.1 hb.2 hg hbl
                · cases q
              · cases q
        · cases q
      · cases q
  · cases q
theorem sub_ok (S : Snd D G F r) (h : OkX D G F L k Γ X Wx) {a i : Expr} {c : C} (q : subE D (r Γ) a i = some c) : DE G X Wx F L A c (.Subscript a i pos) := by
  have u1 : X.A.units + 1 < cLine := by
    have := h.un
    omega
  unfold subE at q
  split at q
  · cases hr : r Γ a with
    | none => rw [hr] at q; cases q
    | some d =>
      rw [hr] at q
      cases q
      exact DE.rev (S.e L A k Γ X Wx a d h hr)
  · split at q
    · rename_i c1 l1 h1 x1 x2 x3
      cases q
      exact DE.slc h.kk (S.e L A k Γ X Wx a _ h x1) (opt_ok S h x2) (opt_ok S h x3)
    · cases q
  · cases q
  · split at q
    · rename_i c1 d1 x1 x2
      cases q
      exact DE.dget u1 (S.e L A k Γ X Wx a c1 h x1) (S.e L A k Γ X Wx _ d1 h x2) (no_sl rfl)
    · cases q
  · rename_i n1 n2 n3 n4
    split at q
    · rename_i c1 d1 x1 x2
      cases q
      refine DE.idx h.kk (S.e L A k Γ X Wx a c1 h x1) (S.e L A k Γ X Wx i d1 h x2) (plain_ix ?_)
      cases i <;> first | rfl | exact absurd rfl (n3 _ _ _ _)
    · cases q
end
end Ci

end
section
set_option linter.all false
set_option autoImplicit false
set_option maxHeartbeats 2000000
set_option maxRecDepth 100000
namespace Ci
open PySem L2
variable [kI : HasK]

section
variable {D : Sta} {G : Glob} {X : Cx} {Wx : WX} {F : FnT} {L : LamT} {A : ActT} {k : Nat} {Γ : Gam} {ea eb e : Expr} {pos : Pos} {x : Str} {r : RecE}

theorem dict_ok (S : Snd D G F r) (h : OkX D G F L k Γ X Wx) : ∀ {ks : List (Option Expr)} {es : List Expr} {ns : List Str} {cs : List C}, strK ks = some ns → dL (r Γ) es = some cs → ks.length = es.length → DPs G X pos Wx F L A ns cs ks es ∧ cs.length = ns.length ∧ ks.all (·.isSome) = true ∧ ns.length = ks.length
  | [], [], ns, cs, h1, h2, _ => by
    cases h1
    cases h2
    exact ⟨DPs.nil, rfl, rfl, rfl⟩
  | kx :: ks, [], ns, cs, h1, h2, hl => by simp at hl
  | [], e :: es, ns, cs, h1, h2, hl => by simp at hl
  | kx :: ks, e :: es, ns, cs, h1, h2, hl => by
    unfold strK at h1
    split at h1
    · rename_i hh
      cases hh
    · rename_i s j p t hh
      cases hh
      cases hs : strK ks with
      | none => rw [hs] at h1; cases h1
      | some ms =>
        rw [hs] at h1
        cases h1
        unfold dL at h2
        split at h2
        · cases h2
        · split at h2
          · rename_i c cs' q1 q2
            cases h2
            obtain ⟨a1, a2, a3, a4⟩ := dict_ok S h hs q2 (by simpa using hl)
            exact ⟨DPs.cons a2 (S.e L A k Γ X Wx e c h q1) a1, by simp [a2], by simp [a3], by simp [a4]⟩
          · cases h2
    · cases h1
theorem lam_ok (S : Snd D G F r) (h : OkX D G F L k Γ X Wx) {params : Arguments} {body : Expr} {scope : Scope} {p lpos : Pos} {fi : Nat} {b : C} (h1 : Γ.hrd x = some fi) (h2 : r (gamL Γ scope) body = some b) (h3 : lamB params Γ.sc scope = true) :
    DE G X Wx F L A (.lam fi b) (.Call (.Name x p) [.Lambda params body scope lpos] [] pos) := by
  refine h.lam x fi h1 params body scope p lpos pos b A h3 fun A' outer s H E f c' hr => ?_
  refine S.e noL noA k (gamL Γ scope) _ _ body b ?_ h2
  have un : (A'.deeper (LamX.lamEnv X scope s.heap.objs.size f c')).units + 100 < cLine := by
    have := hr.un
    omega
  exact {
    N := h.N
    nd := h.nd
    sc := rfl
    fn := fun y z => by cases z
    calm := rfl
    kk := h.kk
    un := un
    gd := fun z => by cases z
    tk := takes_of (X := LamX.lamCx X A' outer s H E scope f c') (E := E) rfl rfl rfl rfl
    rm := hr
    fng := h.fng
    fnl := h.fnl
    bl := h.bl
    bf := h.bf
    gI := h.gI
    lam := fun x fi q => by cases q
    ow := h.ow }
theorem name_ok (h : OkX D G F L k Γ X Wx) {c : C} (q : (if visB Γ.sc x = true then (if nmB x = true then (slot Γ.N x).map .var else none) else if (glB Γ.sc x && nmB x) = true then (D.gcI x).map fun i => C.cst (.int i) else none) = some c) : DE G X Wx F L A c (.Name x pos) := by
  split at q
  · rename_i hv
    split at q
    · rename_i hn
      have nm := nmB_ok hn
      cases hs : slot Γ.N x with
      | none => rw [hs] at q; cases q
      | some i =>
        rw [hs] at q
        cases q
        exact DE.var (by rw [h.N]; exact slot_ok hs) (visB_ok h.sc hv) nm.1 nm.2.1
    · cases q
  · split at q
    · rename_i hb
      rw [Bool.and_eq_true] at hb
      cases hs : D.gcI x with
      | none => rw [hs] at q; cases q
      | some i =>
        rw [hs] at q
        cases q
        obtain ⟨t, hm⟩ := h.gI x i hs
        exact DE.told (v := .int i) (pe_glob (glB_ok h.sc hb.1) hm ⟨t, rfl⟩ (nmB_ok hb.2).1) fun _ _ => by simp only [Dat]
    · cases q
theorem step_e (S : Snd D G F r) (h : OkX D G F L k Γ X Wx) {c : C} (q : stepE D r Γ e = some c) : DE G X Wx F L A c e := by
  unfold stepE at q
  split at q
  · exact name_ok h q
  · cases q; exact DE.int
  · cases q; exact DE.bool
  · cases q; exact DE.none
  · cases q; exact DE.str
  · rename_i es n p
    cases hr : dL (r Γ) es with
    | none => rw [hr] at q; cases q
    | some cs => rw [hr] at q; cases q; exact DE.tup (dL_ok S h hr).1
  · rename_i es p
    cases hr : dL (r Γ) es with
    | none => rw [hr] at q; cases q
    | some cs => rw [hr] at q; cases q; exact DE.lst (dL_ok S h hr).1
  · rename_i ks es p
    split at q
    · rename_i ns cs h1 h2
      split at q
      · rename_i hc
        cases q
        obtain ⟨a1, a2, a3, a4⟩ := dict_ok (A := A) (pos := p) S h h1 h2 hc.1
        exact DE.dict a1 a2 a3 hc.1 hc.2.1 hc.2.2.1 hc.2.2.2 (by rw [a4]; exact hc.2.2.1)
      · cases q
    · cases q
  · rename_i a op b p
    split at q
    · rename_i o c1 d1 h1 h2 h3
      cases q
      exact bop_ok h1 (S.e L A k Γ X Wx a c1 h h2) (S.e L A k Γ X Wx b d1 h h3)
    · cases q
  · rename_i a p
    cases hr : r Γ a with
    | none => rw [hr] at q; cases q
    | some d => rw [hr] at q; cases q; exact DE.neg (S.e L A k Γ X Wx a d h hr)
  · rename_i a p
    cases hr : tstE (r Γ) a with
    | none => rw [hr] at q; cases q
    | some d => rw [hr] at q; cases q; exact DE.not (S.e L A k Γ X Wx a d h (tst_e hr))
  · rename_i op es p
    exact (bool_ok S h rfl q).1
  · rename_i t a b p
    split at q
    · rename_i c1 d1 f1 h1 h2 h3
      cases q
      exact DE.ife (tst_ok S h h1) (S.e L A k Γ X Wx a d1 h h2) (S.e L A k Γ X Wx b f1 h h3)
    · cases q
  · rename_i a op b p
    split at q
    · cases q
    · rename_i hs
      split at q
      · rename_i o c1 d1 h1 h2 h3
        cases q
        exact DE.cmp (cop_ok h h1) (S.e L A k Γ X Wx a c1 h h2) (S.e L A k Γ X Wx b d1 h h3) (marks_no (by simpa using hs))
      · cases q
  · rename_i a op op' b z p
    split at q
    · cases q
    · rename_i hs
      split at q
      · rename_i o o' c1 d1 f1 h1 h2 h3 h4 h5
        cases q
        have hz : isSetE z = false := by
          simp only [Bool.or_eq_true, not_or, Bool.not_eq_true] at hs
          exact hs.2
        exact DE.chain (cop_ok h h1) (cop_ok h h2) (S.e L A k Γ X Wx a c1 h h3) (S.e L A k Γ X Wx b d1 h h4) (S.e L A k Γ X Wx z f1 h h5) (marks_no hz)
      · cases q
  · split at q
    · rename_i fi b h1 h2
      split at q
      · rename_i h3
        cases q
        exact lam_ok S h h1 h2 h3
      · cases q
    · cases q
  · rename_i x' p1 y p2 a p3 p4
    split at q
    · rename_i hxy
      obtain ⟨h1, h2⟩ := hxy
      subst h1
      subst h2
      split at q
      · rename_i hb
        simp only [Bool.and_eq_true, Bool.not_eq_true'] at hb
        cases hr : r Γ a with
        | none => rw [hr] at q; cases q
        | some d =>
          rw [hr] at q
          cases q
          exact DE.sortSet h.calm h.un64 (S.e L A k Γ X Wx a d h hr) (glB_ok h.sc hb.1.1.1.1) (h.bl _ hb.1.1.1.2) (glB_ok h.sc hb.1.1.2) (h.bl _ hb.1.2) (star_cons hb.2) (star_none (es := []) rfl) (star_cons rfl) (star_none (es := []) rfl)
      · cases q
    · exact call_ok S h q
  · exact call_ok S h q
  · exact sub_ok S h q
  · rename_i elt tg iter ifs kk scope p
    split at q
    · rename_i hk
      subst hk
      exact comp_ok S h q
    · cases q
  · cases q
theorem step_t (S : Snd D G F r) (h : OkX D G F L k Γ X Wx) {c : C} (hi : isIfE e = false) (q : stepE D r Γ e = some c) : DT G X Wx F L A c e := by
  by_cases hv : isVal e = true
  · exact DE.dt (step_e S h q) (val_true hv)
  · cases e with
    | UnaryOp op a p =>
      cases op with
      | Not =>
        unfold stepE at q
        simp only [] at q
        cases hr : tstE (r Γ) a with
        | none => rw [hr] at q; cases q
        | some d => rw [hr] at q; cases q; exact DT.not (tst_ok S h hr)
      | _ => exact absurd rfl hv
    | BoolOp op es p =>
      unfold stepE at q
      simp only [] at q
      exact DW.dt (bool_ok S h rfl q).2
    | IfExp t a b p => cases hi
    | Compare a ops bs p =>
      unfold stepE at q
      split at q
      all_goals first | (rename_i hh; cases hh; done) | skip
      all_goals first | (cases q; done) | skip
      · rename_i hh
        cases hh
        split at q
        · cases q
        · rename_i hs
          split at q
          · rename_i o c1 d1 h1 h2 h3
            cases q
            exact DT.cmp (cop_ok h h1) (S.e L A k Γ X Wx _ c1 h h2) (S.e L A k Γ X Wx _ d1 h h3) (marks_no (by simpa using hs))
          · cases q
      · rename_i hh
        cases hh
        split at q
        · cases q
        · rename_i hs
          split at q
          · rename_i o o' c1 d1 f1 h1 h2 h3 h4 h5
            cases q
            refine DT.chain (cop_ok h h1) (cop_ok h h2) (S.e L A k Γ X Wx _ c1 h h3) (S.e L A k Γ X Wx _ d1 h h4) (S.e L A k Γ X Wx _ f1 h h5) (marks_no ?_)
            simp only [Bool.or_eq_true, not_or, Bool.not_eq_true] at hs
            exact hs.2
          · cases q
    | _ => exact absurd rfl hv
theorem cE_snd : ∀ n, Snd D G F (cE D n)
  | 0 => ⟨fun L A k Γ X Wx e c h q => (by cases q), fun L A k Γ X Wx e c h hi q => (by cases q)⟩
  | n + 1 => ⟨fun L A k Γ X Wx e c h q => step_e (cE_snd n) h q, fun L A k Γ X Wx e c h hi q => step_t (cE_snd n) h hi q⟩
end
end Ci

end
section
set_option linter.all false
set_option autoImplicit false
set_option maxHeartbeats 2000000
set_option maxRecDepth 100000
namespace Ci
open PySem L2
variable [kI : HasK]

def isComp : Expr → Bool
  | .ListComp _ _ _ _ => true
  | .SetComp _ _ _ _ => true
  | .DictComp _ _ _ _ _ => true
  | _ => false
theorem sw_some {e t : Expr} {env : Env} {l : Nat} (h : isComp e = false) : swapsWith e (some t) l env = pure false := by
  cases e <;> first | rfl | (simp [isComp] at h)
theorem sw_none {e : Expr} {env : Env} {l : Nat} (h : isComp e = false) : swapsWith e none l env = pure false := by
  cases e <;> first | rfl | (simp [isComp] at h)
def isNameE : Expr → Bool
  | .Name _ _ => true
  | _ => false
theorem sw_tgt {e t : Expr} {env : Env} {l : Nat} (h : isNameE t = false) : swapsWith e (some t) l env = pure false := by
  cases e <;> first | rfl | (cases t <;> first | rfl | (simp [isNameE] at h))
def isTupE : Expr → Bool
  | .Tuple _ _ _ => true
  | _ => false
theorem stores_no {ts : List Expr} {n : Nat} {pt : Pos} {e : Expr} {env : Env} (h : isTupE e = false) : swappedStores [.Tuple ts n pt] e env = pure none := by
  cases e <;> first | rfl | (simp [isTupE] at h)
theorem stores_sub {a i e : Expr} {p : Pos} {env : Env} : swappedStores [.Subscript a i p] e env = pure none := by
  cases e <;> rfl
def nmF (env : Env) (l : Nat) : Expr → Option Str
  | .Name id pos => if env.kindOf id == some .local && pos.line == l then some id else none
  | _ => none
theorem stores_is {t1 t2 : Expr} {pt pt2 : Pos} {k1 k2 : Nat} {a b : Expr} {env : Env} : swappedStores [.Tuple [t1, t2] k1 pt] (.Tuple [a, b] k2 pt2) env = (do
    if env.blockKind != .function then return none
    if [a, b].any isStar then return none
    if ([t1, t2].filterMap (nmF env t1.pos.line)).length != 2 || ([t1, t2].filterMap (nmF env t1.pos.line)).eraseDups.length != ([t1, t2].filterMap (nmF env t1.pos.line)).length then return none
    if [a, b].all (foldedForSure 8) then return none
    if [a, b].all (constantsAlone 8) then unsupported "assign.tuple-of-constant-expressions:order-of-the-stores"
    return some ([t1, t2].filterMap (nmF env t1.pos.line))) := rfl
theorem stores_pair {y z : Str} {px py pt pt2 : Pos} {k1 k2 : Nat} {a b : Expr} {env : Env} (hb : env.blockKind = .function) (h1 : isStar a = false) (h2 : isStar b = false) (hy : env.kindOf y = some .local) (hz : env.kindOf z = some .local) (hl : px.line = py.line) (hn : (z == y) = false)
    (hf : (foldedForSure 8 a && foldedForSure 8 b) = false) (hc : (constantsAlone 8 a && constantsAlone 8 b) = false) : swappedStores [.Tuple [.Name y px, .Name z py] k1 pt] (.Tuple [a, b] k2 pt2) env = pure (some [y, z]) := by
  rw [stores_is]
  have i1 : nmF env px.line (.Name y px) = some y := by
    show (if (env.kindOf y == some .local && px.line == px.line) = true then some y else none) = _
    rw [hy]
    simp
  have i2 : nmF env px.line (.Name z py) = some z := by
    show (if (env.kindOf z == some .local && py.line == px.line) = true then some z else none) = _
    rw [hz, hl]
    simp
  have nm : [Expr.Name y px, Expr.Name z py].filterMap (nmF env (Expr.Name y px).pos.line) = [y, z] := by
    show [Expr.Name y px, Expr.Name z py].filterMap (nmF env px.line) = [y, z]
    rw [List.filterMap_cons, i1, List.filterMap_cons, i2]
    rfl
  have dd : [y, z].eraseDups = [y, z] := by
    have f1 : (List.filter (fun b => !b == y) [z]) = [z] := by simp [List.filter, hn]
    rw [List.eraseDups_cons, f1, List.eraseDups_cons]
    rfl
  have c1 : (env.blockKind != .function) = false := by rw [hb]; rfl
  have c2 : [a, b].any isStar = false := by simp [h1, h2]
  have c3 : ([y, z].length != 2 || [y, z].eraseDups.length != [y, z].length) = false := by rw [dd]; rfl
  have c4 : [a, b].all (foldedForSure 8) = false := by simpa using hf
  have c5 : [a, b].all (constantsAlone 8) = false := by simpa using hc
  rw [nm]
  simp only [c1, c2, c3, c4, c5, Bool.false_eq_true, if_false]
theorem stores_folded {t1 t2 : Expr} {pt pt2 : Pos} {k1 k2 : Nat} {a b : Expr} {env : Env} (hf : (foldedForSure 8 a && foldedForSure 8 b) = true) : swappedStores [.Tuple [t1, t2] k1 pt] (.Tuple [a, b] k2 pt2) env = pure none := by
  rw [stores_is]
  have c4 : [a, b].all (foldedForSure 8) = true := by simpa using hf
  simp only [c4, if_true]
  split
  · rfl
  · split
    · rfl
    · split <;> rfl

structure StS where
  d : Sta
  fz : Pos → Option Str
  m : Nat
  cls : Str → Option Nat
  hcl : Str → Option Nat
  fld : Nat → Option Str
  gc : Cls
def swapB (Γ : Gam) (y : Str) (py : Pos) (l : Nat) (sc : Scope) : Bool := locB Γ.sc y && py.line == l && !(sc.names.any fun (n, k) => n == y && (k == .local || k == .cell))
def augOf : Operator → Option BOp
  | .Add => some .add
  | .Sub => some .sub
  | _ => none
def setB (Γ : Gam) (y : Str) (py : Pos) (e : Expr) : Bool := match e with
  | .ListComp _ _ sc p => !(swapB Γ y py p.line sc) || locB Γ.sc y
  | .SetComp _ _ _ _ => false
  | .DictComp _ _ _ _ _ => false
  | _ => true
def setE (D : StS) (Γ : Gam) (y : Str) (py : Pos) (e : Expr) : Option S := match slot Γ.N y, cE D.d D.m Γ e with
  | some i, some c => if (locCB Γ.sc y && setB Γ y py e) = true then some (.set i c) else none
  | _, _ => none
def pairE (D : StS) (Γ : Gam) (y z : Str) (px py : Pos) (a b : Expr) : Option S := if (foldedForSure 8 a && foldedForSure 8 b) = true then (match tgNs Γ [.Name y px, .Name z py], cE D.d D.m Γ a, cE D.d D.m Γ b with
    | some is, some c, some d => if (!isStar a && !isStar b) = true then some (.unp is (.tup [c, d])) else none
    | _, _, _ => none)
  else match slot Γ.N y, slot Γ.N z, cE D.d D.m Γ a, cE D.d D.m Γ b with
    | some i, some j, some c, some d => if (locB Γ.sc y && locB Γ.sc z && px.line == py.line && !(z == y) && !isStar a && !isStar b && !(constantsAlone 8 a && constantsAlone 8 b) && decide (i ≠ j)) = true then some (.par i j c d) else none
    | _, _, _, _ => none
def methE (D : StS) (Γ : Gam) (a : Expr) (mt : Str) (ap cp : Pos) (es : List Expr) : Option S := if (isNameE a && ap.endLine == cp.line) = true then (match es with
    | [e] => if (mt = ("append" : Str) ∧ isStar e = false) then (match cE D.d D.m Γ a, cE D.d D.m Γ e with
      | some c, some d => some (.app c d)
      | _, _ => none) else none
    | [i, e] => if (mt = ("insert" : Str) ∧ isStar i = false ∧ isStar e = false) then (match cE D.d D.m Γ a, cE D.d D.m Γ i, cE D.d D.m Γ e with
      | some c, some f, some d => some (.ins c f d)
      | _, _, _ => none) else none
    | _ => none) else none
def strC : Expr → Bool
  | .Constant (.str _) _ _ => true
  | _ => false
/-- an item of a suite's tuple; n: the error's name, ci: its class -/
def itemE (D : StS) (Γ : Gam) (n : Str) (ci : Nat) (e : Expr) : Option HI := match e with
  | .Constant (.str s) _ _ => some (.txt s)
  | .Attribute (.Name n' _) f _ => if n' = n ∧ D.fld ci = some f then some .fld else none
  | .Call (.Name x _) [.Name n' _, .Name y _] [] _ => if x = ("isinstance" : Str) ∧ n' = n ∧ (glB Γ.sc "isinstance" && D.d.bl "isinstance" && glB Γ.sc y && nmB y) = true then (match D.hcl y with
      | some k => if (D.gc.sub ci k).isSome = true then some (.isc k) else none
      | none => none) else none
  | _ => none
def itemsE (D : StS) (Γ : Gam) (n : Str) (ci : Nat) : List Expr → Option (List HI)
  | [] => some []
  | e :: es => if isStar e = true then none else match itemE D Γ n ci e, itemsE D Γ n ci es with
    | some h, some hs => some (h :: hs)
    | _, _ => none
def clauseE (D : StS) (Γ : Gam) (x n y : Str) (es : List Expr) : Option Hd := match D.hcl x, slot Γ.N n, slot Γ.N y with
  | some ci, some i, some j => if (glB Γ.sc x && nmB x && locB Γ.sc n && visB Γ.sc n && nmB n && locCB Γ.sc y) = true then (match itemsE D Γ n ci es with
      | some hs => some ⟨ci, i, some j, hs⟩
      | none => none) else none
  | _, _, _ => none
def clausesE (D : StS) (Γ : Gam) : List ExceptHandler → Option (List Hd)
  | [] => some []
  | .ExceptHandler (some (.Name x _)) (some n) [.Assign [.Name y _] (.Tuple es _ _) _] _ :: r => match clauseE D Γ x n y es, clausesE D Γ r with
    | some h, some hs => some (h :: hs)
    | _, _ => none
  | _ => none
def noLam (Γ : Gam) : Gam := ⟨Γ.N, Γ.sc, Γ.fnB, Γ.gu, fun _ => none⟩
def raiseE (D : StS) (Γ : Gam) (x : Str) (e : Expr) : Option S := match D.cls x, cE D.d D.m Γ e with
  | some ci, some c => if (glB Γ.sc x && nmB x && !isStar e) = true then some (.raise ci (some c)) else none
  | _, _ => none
def stS (D : StS) (Γ : Gam) (rg : Gam → List Stmt → Option (List S)) (st : Stmt) : Option S := match st with
  | .Assign [.Name y py] e _ => setE D Γ y py e
  | .Assign [.Tuple [.Name y px, .Name z py] _ _] (.Tuple [a, b] _ _) _ => pairE D Γ y z px py a b
  | .Assign [.Tuple es _ _] e _ => if isTupE e = true then none else match tgNs Γ es, cE D.d D.m Γ e with
    | some is, some c => some (.unp is c)
    | _, _ => none
  | .Assign [.Subscript a i _] e _ => match cE D.d D.m Γ a, cE D.d D.m Γ i, cE D.d D.m Γ e with
    | some c, some d, some f => if isSlice i = true then none else some (if strC i = true then .dput c d f else .sub c d f)
    | _, _, _ => none
  | .AugAssign (.Name y _) op e _ => match slot Γ.N y, augOf op, cE D.d D.m Γ e with
    | some i, some o, some c => if locCB Γ.sc y = true then some (.aug i o c) else none
    | _, _, _ => none
  | .Expr (.Call (.Attribute a mt ap) es [] cp) _ => methE D Γ a mt ap cp es
  | .Expr e _ => if isComp e = true then none else (cE D.d D.m Γ e).map .ex
  | .If c a b _ => match tstE (cE D.d D.m Γ) c, rg Γ a, rg Γ b with
    | some t, some x, some y => some (.ite t x y)
    | _, _, _ => none
  | .For tg it b [] _ => if isSetE it = true then none else match tgE Γ tg, iterE D.d Γ (cE D.d D.m Γ) it, rg Γ b with
    | some t, some c, some x => some (.for_ t c x)
    | _, _, _ => none
  | .While c b [] _ => match tstE (cE D.d D.m Γ) c, rg Γ b with
    | some t, some x => some (.while_ t x)
    | _, _ => none
  | .Return (some e) _ => (cE D.d D.m Γ e).map .ret
  | .Pass _ => some .pass
  | .Raise (some (.Call (.Name x _) [e] [] _)) none _ => raiseE D Γ x e
  | .Try b (h :: hs) [] [] _ => match rg (noLam Γ) b, clausesE D Γ (h :: hs) with
    | some x, some y => some (.try_ x y)
    | _, _ => none
  | _ => none
structure OkS (D : StS) (G : Glob) (F : FnT) (L : LamT) (k : Nat) (Γ : Gam) (X : Cx) (Wx : WX) : Prop where
  x : OkX D.d G F L k Γ X Wx
  po : PassesOwn (model X.prog X.w) X.A X.env X.xe
  fa : ∀ y, X.fn y = true
  bk : X.env.blockKind = .function
  st : X.stack = X.env :: X.outer
  fr : X.env.frame = some X.env.locals
  rs : ∀ x ci, D.cls x = some ci → ∃ (C fI : Addr) (fd : FuncData) (ps : List Str) (f : Str) (j : Nat), G.clsA ci = C ∧ G.fldN ci = some f ∧ OexC X.K C ∧ PySem.W.findIn X.K (.ref C) "__init__" = some (some (.ref fI)) ∧ PySem.W.findIn X.K (.ref C) f = some none ∧
    PySem.W.typeIn X.K (.ref fI) = some (.type "function") ∧ FnOk X.prog X.w X.K X.mg X.base (L2.CX X.prog X.w) j fI fd ps (spI X.K f) ∧ Room (j + 1) X.A ∧ Binds X.K fd ps [] ∧ X.mg x = some (.ref C)
  hd : ∀ x ci, D.hcl x = some ci → X.mg x = some (.ref (G.clsA ci)) ∧ XfC X.K (G.clsA ci) ∧ ExcC X.K (G.clsA ci) ∧ ∀ f, D.fld ci = some f → G.fldN ci = some f ∧ PySem.W.findIn X.K (.ref (G.clsA ci)) f = some none
  co : ClsOk G D.gc X.K

section
variable {D : StS} {Gc : Cls} {G : Glob} {X : Cx} {Wx : WX} {F : FnT} {L : LamT} {A : ActT} {k : Nat} {Γ : Gam} {a b e : Expr} {pos : Pos} {y z : Str} {s : S}

theorem sw_comp (h : OkS D G F L k Γ X Wx) {elt : Expr} {gs : List Comprehension} {sc : Scope} {p py : Pos} {l : Nat} : swapsWith (.ListComp elt gs sc p) (some (.Name y py)) l X.env = pure (swapB Γ y py p.line sc) := by
  show pure (X.env.blockKind == .function && X.env.kindOf y == some .local && py.line == p.line && !(sc.names.any fun (n, k) => n == y && (k == .local || k == .cell))) = _
  have e1 : (X.env.blockKind == .function) = true := by rw [h.bk]; rfl
  have e2 : (X.env.kindOf y == some .local) = locB Γ.sc y := by
    show (X.env.scope.names.lookup y == some .local) = _
    rw [h.x.sc]
    unfold locB
    split
    · rename_i q; rw [q]; rfl
    · rename_i q
      cases hh : Γ.sc.names.lookup y with
      | none => rfl
      | some kd => cases kd <;> first | rfl | exact absurd hh q
  rw [e1, e2]
  rfl
theorem comp_parts (h : OkS D G F L k Γ X Wx) {n : Nat} {elt : Expr} {gs : List Comprehension} {scope : Scope} {c : C} (q : cE D.d n Γ (.ListComp elt gs scope pos) = some c) {py pp : Pos} {i : Nat} (hy : X.N[i]? = some y) (hyl : locB Γ.sc y = true)
    (hsw : swapsWith (.ListComp elt gs scope pos) (some (.Name y py)) pp.line X.env = pure true) : DS Gc G X Wx F L A (.set i c) (.Assign [.Name y py] (.ListComp elt gs scope pos) pp) := by
  cases n with
  | zero => cases q
  | succ n =>
    have S : Snd D.d G F (cE D.d n) := cE_snd n
    have q2 : stepE D.d (cE D.d n) Γ (.ListComp elt gs scope pos) = some c := q
    clear q
    unfold stepE at q2
    split at q2
    all_goals first | (rename_i hh; cases hh; done) | skip
    · rename_i elt' tg iter ifs kk scope' p' hh
      cases hh
      split at q2
      · rename_i hk
        subst hk
        unfold compE at q2
        split at q2
        · rename_i it t u d h1 h2 h3 h4
          split at q2
          · rename_i hb
            cases q2
            simp only [Bool.and_eq_true, Bool.not_eq_true'] at hb
            have bk : BlkOk X.N X.env.scope scope (ownOf Γ.N scope) := by
              rw [h.x.N, h.x.sc]
              exact blkOk_by hb.1.1
            refine DS.setLc h.x.calm h.x.nd hy (locB_ok h.x.sc hyl) hsw (iter_ok S h.x h1) bk (tgInB_ok hb.1.2) (fun s H Cc cl fp => ?_) (fun s H Cc cl fp => ?_) (fun s H Cc cl fp => ?_) (folded_no hb.2)
            · have o := h.x.blk s H scope cl Cc fp
              exact tg_ok (Γ := gamC Γ scope) o.calm o.N o.nd o.sc o.fn h2
            · have o := h.x.blk s H scope cl Cc fp
              unfold tstO at h3
              split at h3
              · cases h3
                exact DTs.none
              · rename_i e1
                cases hr : tstE (cE D.d n (gamC Γ scope)) e1 with
                | none => rw [hr] at h3; cases h3
                | some d1 =>
                  rw [hr] at h3
                  cases h3
                  exact DTs.one (tst_ok S (Γ := gamC Γ scope) o hr)
              · cases h3
            · exact S.e L A k (gamC Γ scope) _ _ elt d (h.x.blk s H scope cl Cc fp) h4
          · cases q2
        · cases q2
      · cases q2
    · cases q2
theorem set_ok (h : OkS D G F L k Γ X Wx) {py : Pos} (q : setE D Γ y py e = some s) : DS Gc G X Wx F L A s (.Assign [.Name y py] e pos) := by
  unfold setE at q
  split at q
  · rename_i i c h1 h2
    split at q
    · rename_i hb
      cases q
      rw [Bool.and_eq_true] at hb
      have hi : X.N[i]? = some y := by rw [h.x.N]; exact slot_ok h1
      have he := (cE_snd (D := D.d) (G := G) (F := F) D.m).e L A k Γ X Wx e c h.x h2
      by_cases hc : isComp e = false
      · exact DS.set h.x.nd hi (locCB_ok h.x.sc hb.1) he (sw_some hc) (.inl (h.fa y))
      · cases e with
        | ListComp elt gs sc p =>
          have hb2 : (!(swapB Γ y py p.line sc) || locB Γ.sc y) = true := hb.2
          simp only [Bool.or_eq_true, Bool.not_eq_true'] at hb2
          cases hs : swapB Γ y py p.line sc with
          | true =>
            have hl : locB Γ.sc y = true := by
              rcases hb2 with z | z
              · rw [hs] at z; cases z
              · exact z
            exact comp_parts h h2 hi hl (by rw [sw_comp h, hs])
          | false => exact DS.set h.x.nd hi (locCB_ok h.x.sc hb.1) he (by rw [sw_comp h, hs]) (.inl (h.fa y))
        | SetComp => have z := hb.2; cases z
        | DictComp => have z := hb.2; cases z
        | _ => exact absurd rfl hc
    · cases q
  · cases q
end
end Ci

end
section
set_option linter.all false
set_option autoImplicit false
set_option maxHeartbeats 2000000
set_option maxRecDepth 100000
namespace Ci
open PySem L2
variable [kI : HasK]

section
variable {D : StS} {Gc : Cls} {G : Glob} {X : Cx} {Wx : WX} {F : FnT} {L : LamT} {A : ActT} {k : Nat} {Γ : Gam} {a b e : Expr} {pos : Pos} {y z : Str} {s : S}

theorem cS (n : Nat) : Snd D.d G F (cE D.d n) := cE_snd n
theorem sole_tgt {t e : Expr} {l : Nat} {env : Env} (h : isNameE t = false) : swapsWithSole [t] e l env = pure false := by
  show swapsWith e (some t) l env = pure false
  exact sw_tgt h
theorem asg_sub {a i : Expr} {p : Pos} {env : Env} (h : isSlice i = false) (v : Value) : assign (.Subscript a i p) env v = (do
        let ov ← holding [v] (eval a env)
        let iv ← holding [v, ov] (eval i env)
        standAt p
        holding [v, ov, iv] (setItem ov iv v)
        release [v, ov, iv] []) := by
  cases i <;> first | rfl | (simp [isSlice] at h)
theorem unp_ok (h : OkS D G F L k Γ X Wx) {es : List Expr} {n : Nat} {pt : Pos} {is : List Nat} {c : C} (h1 : tgNs Γ es = some is) (he : DE G X Wx F L A c e) (hsw : swappedStores [.Tuple es n pt] e X.env = pure none) : DS Gc G X Wx F L A (.unp is c) (.Assign [.Tuple es n pt] e pos) := by
  obtain ⟨a1, a2, a3⟩ := tgNs_ok h.x.N h.x.nd h.x.sc h.x.fn h1
  exact DS.unp he (DG.tup h.x.calm a1 a2 a3) (sole_tgt rfl) hsw rfl
theorem pair_ok (h : OkS D G F L k Γ X Wx) {px py pt pt2 : Pos} {k1 k2 : Nat} (q : pairE D Γ y z px py a b = some s) : DS Gc G X Wx F L A s (.Assign [.Tuple [.Name y px, .Name z py] k1 pt] (.Tuple [a, b] k2 pt2) pos) := by
  unfold pairE at q
  split at q
  · rename_i hf
    split at q
    · rename_i is c d h1 h2 h3
      split at q
      · rename_i hb
        cases q
        simp only [Bool.and_eq_true, Bool.not_eq_true'] at hb
        refine unp_ok h h1 (DE.tup (DA.cons ((cS D.m).e L A k Γ X Wx a c h.x h2) (DA.cons ((cS D.m).e L A k Γ X Wx b d h.x h3) DA.nil (star_cons hb.2)) (star_cons hb.1))) (stores_folded hf)
      · cases q
    · cases q
  · rename_i hf
    have hf : (foldedForSure 8 a && foldedForSure 8 b) = false := by simpa using hf
    split at q
    · rename_i i j c d h1 h2 h3 h4
      split at q
      · rename_i hb
        cases q
        simp only [Bool.and_eq_true, Bool.not_eq_true', decide_eq_true_eq] at hb
        obtain ⟨⟨⟨⟨⟨⟨⟨b1, b2⟩, b3⟩, b4⟩, b5⟩, b6⟩, b7⟩, b8⟩ := hb
        have hl : px.line = py.line := by simpa using b3
        have ly := locB_ok h.x.sc b1
        have lz := locB_ok h.x.sc b2
        exact DS.par h.x.calm h.x.nd (by rw [h.x.N]; exact slot_ok h1) (by rw [h.x.N]; exact slot_ok h2) b8 ly lz (DA.cons ((cS D.m).e L A k Γ X Wx a c h.x h3) (DA.cons ((cS D.m).e L A k Γ X Wx b d h.x h4) DA.nil (star_cons b6)) (star_cons b5))
          (stores_pair h.bk b5 b6 ly lz hl b4 hf b7) rfl
      · cases q
    · cases q
theorem meth_ok (h : OkS D G F L k Γ X Wx) {mt : Str} {ap cp : Pos} {es : List Expr} (q : methE D Γ a mt ap cp es = some s) : DS Gc G X Wx F L A s (.Expr (.Call (.Attribute a mt ap) es [] cp) pos) := by
  unfold methE at q
  split at q
  · rename_i hb
    rw [Bool.and_eq_true] at hb
    have hat : ∀ m : Str, attributeBase a m X.env (eval a X.env) = eval a X.env := fun m => by
      cases a <;> first | rfl | (cases hb.1)
    split at q
    · rename_i e
      split at q
      · rename_i hm
        obtain ⟨h1, h2⟩ := hm
        subst h1
        split at q
        · rename_i c d h3 h4
          cases q
          exact DS.app ((cS D.m).e L A k Γ X Wx a c h.x h3) ((cS D.m).e L A k Γ X Wx e d h.x h4) (hat _) (by rw [star_cons h2]; rfl) hb.2 (star_cons h2) (star_none (es := []) rfl) (sw_none rfl)
        · cases q
      · cases q
    · rename_i i e
      split at q
      · rename_i hm
        obtain ⟨h1, h2, h5⟩ := hm
        subst h1
        split at q
        · rename_i c f d h3 h6 h4
          cases q
          exact DS.ins ((cS D.m).e L A k Γ X Wx a c h.x h3) ((cS D.m).e L A k Γ X Wx i f h.x h6) ((cS D.m).e L A k Γ X Wx e d h.x h4) (hat _) (by rw [star_cons h2, star_cons h5]; rfl) hb.2 (star_cons h2) (star_cons h5) (star_none (es := [e]) (by simp [h5])) (sw_none rfl)
        · cases q
      · cases q
    · cases q
  · cases q
theorem raise_ok (h : OkS D G F L k Γ X Wx) {x : Str} {p cp : Pos} (q : raiseE D Γ x e = some s) : DS Gc G X Wx F L A s (.Raise (some (.Call (.Name x p) [e] [] cp)) none pos) := by
  unfold raiseE at q
  split at q
  · rename_i ci c h1 h2
    split at q
    · rename_i hb
      cases q
      simp only [Bool.and_eq_true, Bool.not_eq_true'] at hb
      obtain ⟨C, fI, fd, ps, f, j, r1, r2, r3, r4, r5, r6, r7, r8, r9, r10⟩ := h.rs x ci h1
      exact DS.raise h.x.calm h.x.tk r1 r2 r3 r4 r5 r6 r7 r8 r9 (passes_call h.x.tk fun _ _ _ _ z => z.elim) (glB_ok h.x.sc hb.1.1) r10 (DA.cons ((cS D.m).e L A k Γ X Wx e c h.x h2) DA.nil (star_cons hb.2)) (nmB_ok hb.1.2).1 (star_cons hb.2) (star_none (es := []) rfl)
    · cases q
  · cases q
theorem item_ok (h : OkS D G F L k Γ X Wx) {n : Str} {ci i : Nat} {hi : HI} {x : Str} (hx : D.hcl x = some ci) (hn : slot Γ.N n = some i) (hv : visB Γ.sc n = true) (hnm : nmB n = true) (q : itemE D Γ n ci e = some hi) : DH D.gc G X i ci hi e := by
  obtain ⟨m1, m2, m3, m4⟩ := h.hd x ci hx
  have hN : X.N[i]? = some n := by rw [h.x.N]; exact slot_ok hn
  have vis := visB_ok h.x.sc hv
  have nm := nmB_ok hnm
  unfold itemE at q
  split at q
  · cases q; exact DH.txt
  · rename_i n' p f ap
    split at q
    · rename_i hc
      cases q
      obtain ⟨e1, e2⟩ := hc
      subst e1
      exact DH.fld m2 (m4 f e2).2 (m4 f e2).1 hN vis nm.1 nm.2.1 rfl
    · cases q
  · rename_i x' p1 n' p2 y p3 p4
    split at q
    · rename_i hc
      obtain ⟨e1, e2, e3⟩ := hc
      subst e1
      subst e2
      simp only [Bool.and_eq_true] at e3
      split at q
      · rename_i kk hk
        split at q
        · rename_i hs
          cases q
          have hs' : ∃ b, D.gc.sub ci kk = some b := Option.isSome_iff_exists.mp hs
          exact DH.isc h.co m3 hN vis nm.1 nm.2.1 (glB_ok h.x.sc e3.1.1.1) (h.x.bl _ e3.1.1.2) (glB_ok h.x.sc e3.1.2) (h.hd y kk hk).1 (nmB_ok e3.2).1 hs' (star_cons rfl) (star_cons rfl) (star_none (es := [.Name y p3]) rfl)
        · cases q
      · cases q
    · cases q
  · cases q
theorem items_ok (h : OkS D G F L k Γ X Wx) {n : Str} {ci i : Nat} {x : Str} (hx : D.hcl x = some ci) (hn : slot Γ.N n = some i) (hv : visB Γ.sc n = true) (hnm : nmB n = true) : ∀ {es : List Expr} {hs : List HI}, itemsE D Γ n ci es = some hs → DHs D.gc G X i ci hs es
  | [], hs, q => by cases q; exact DHs.nil
  | e :: es, hs, q => by
    unfold itemsE at q
    split at q
    · cases q
    · rename_i st
      split at q
      · rename_i hi hs' h1 h2
        cases q
        exact DHs.cons (item_ok h hx hn hv hnm h1) (items_ok h hx hn hv hnm h2) (star_cons (by simpa using st))
      · cases q
theorem clauses_ok (h : OkS D G F L k Γ X Wx) : ∀ {hds : List ExceptHandler} {hs : List Hd}, clausesE D Γ hds = some hs → DHds D.gc G X Wx hs hds
  | [], hs, q => by cases q; exact DHds.nil
  | hd :: hds, hs, q => by
    unfold clausesE at q
    split at q
    · rename_i hh; cases hh
    · rename_i x p1 n y p2 es m tp p3 p4 r hh
      cases hh
      split at q
      · rename_i hc hs' h1 h2
        cases q
        unfold clauseE at h1
        split at h1
        · rename_i ci i j c1 c2 c3
          split at h1
          · rename_i hb
            simp only [Bool.and_eq_true] at hb
            obtain ⟨⟨⟨⟨⟨b1, b2⟩, b3⟩, b4⟩, b5⟩, b6⟩ := hb
            split at h1
            · rename_i its hi
              cases h1
              exact DHds.cons (i := j) h.co (items_ok h c1 c2 b4 b5 hi) (clauses_ok h h2) ⟨glB_ok h.x.sc b1, (nmB_ok b2).1, .inl (h.hd x ci c1).1⟩ (by rw [h.x.N]; exact slot_ok c2) (locB_ok h.x.sc b3) h.x.nd rfl (by rw [h.x.N]; exact slot_ok c3) (locCB_ok h.x.sc b6) (sw_some rfl) (.inl (h.fa y))
            · cases h1
          · cases h1
        · cases h1
      · cases q
    · cases q
/-- the body of a try -/
theorem OkS.try_ (h : OkS D G F L k Γ X Wx) {W : WX} {pn : List (Addr × Obj)} {xe : Value → Shared → Prop} (tk : Takes (X.tr pn xe) W) (po : PassesOwn (model X.prog X.w) X.A X.env xe) : OkS D G F L k (noLam Γ) (X.tr pn xe) W where
  x := { N := h.x.N, nd := h.x.nd, sc := h.x.sc, fn := h.x.fn, calm := h.x.calm, kk := h.x.kk, un := h.x.un, gd := h.x.gd, tk := tk, rm := h.x.rm, fng := h.x.fng, fnl := h.x.fnl, bl := h.x.bl, bf := h.x.bf, gI := h.x.gI, lam := fun x fi q => (by cases q), ow := h.x.ow }
  po := po
  fa := h.fa
  bk := h.bk
  st := h.st
  fr := h.fr
  rs := h.rs
  hd := h.hd
  co := h.co
def SndR (D : StS) (G : Glob) (F : FnT) (r : Gam → List Stmt → Option (List S)) : Prop := ∀ (L : LamT) (A : ActT) (k : Nat) (Γ : Gam) (X : Cx) (Wx : WX) (sts : List Stmt) (ss : List S), OkS D G F L k Γ X Wx → r Γ sts = some ss → DSs D.gc G X Wx F L A ss sts
theorem st_ok (h : OkS D G F L k Γ X Wx) {r : Gam → List Stmt → Option (List S)} (R0 : SndR D G F r) {st : Stmt} (q : stS D Γ r st = some s) : DS D.gc G X Wx F L A s st := by
  have R : ∀ (sts : List Stmt) (ss : List S), r Γ sts = some ss → DSs D.gc G X Wx F L A ss sts := fun sts ss q => R0 L A k Γ X Wx sts ss h q
  have S : Snd D.d G F (cE D.d D.m) := cS D.m
  have u1 : X.A.units + 1 < cLine := by
    have := h.x.un
    omega
  unfold stS at q
  split at q
  · exact set_ok h q
  · exact pair_ok h q
  · rename_i es n pt e p _
    split at q
    · cases q
    · rename_i ht
      split at q
      · rename_i is c h1 h2
        cases q
        exact unp_ok h h1 (S.e L A k Γ X Wx e c h.x h2) (stores_no (by simpa using ht))
      · cases q
  · rename_i a i tp e p
    split at q
    · rename_i c d f h1 h2 h3
      split at q
      · cases q
      rename_i hsl
      cases q
      have da := S.e L A k Γ X Wx a c h.x h1
      have di := S.e L A k Γ X Wx i d h.x h2
      have de := S.e L A k Γ X Wx e f h.x h3
      split
      · exact DS.dput u1 de da di (sw_tgt rfl)
      · exact DS.sub de da di (sole_tgt rfl) stores_sub rfl (asg_sub (by simpa using hsl))
    · cases q
  · rename_i y tp op e p
    split at q
    · rename_i i o c h1 h2 h3
      split at q
      · rename_i hl
        cases q
        have de := S.e L A k Γ X Wx e c h.x h3
        have hi : X.N[i]? = some y := by rw [h.x.N]; exact slot_ok h1
        cases op <;> first | (cases h2; done) | skip
        · cases h2
          exact DS.aug h.x.nd hi (locCB_ok h.x.sc hl) de ip_add (fun _ _ => rfl) (.inl (h.fa y))
        · cases h2
          exact DS.aug h.x.nd hi (locCB_ok h.x.sc hl) de ip_sub (fun _ _ => rfl) (.inl (h.fa y))
      · cases q
    · cases q
  · exact meth_ok h q
  · rename_i e p _
    split at q
    · cases q
    · rename_i hc
      cases hr : cE D.d D.m Γ e with
      | none => rw [hr] at q; cases q
      | some c => rw [hr] at q; cases q; exact DS.ex_ (S.e L A k Γ X Wx e c h.x hr) (sw_none (by simpa using hc))
  · rename_i c a b p
    split at q
    · rename_i t x y h1 h2 h3
      cases q
      exact DS.ite (tst_ok S h.x h1) (R _ _ h2) (R _ _ h3)
    · cases q
  · rename_i tg it b p
    split at q
    · cases q
    · rename_i hs
      split at q
      · rename_i t c x h1 h2 h3
        cases q
        exact DS.for_ h.po h.x.calm (iter_ok S h.x h2) (tg_ok h.x.calm h.x.N h.x.nd h.x.sc h.x.fn h1) (R _ _ h3) (folded_no (by simpa using hs))
      · cases q
  · rename_i c b p
    split at q
    · rename_i t x h1 h2
      cases q
      exact DS.while_ h.po (tst_ok S h.x h1) (R _ _ h2)
    · cases q
  · rename_i e p
    cases hr : cE D.d D.m Γ e with
    | none => rw [hr] at q; cases q
    | some c => rw [hr] at q; cases q; exact DS.ret (S.e L A k Γ X Wx e c h.x hr)
  · cases q; exact DS.pass
  · exact raise_ok h q
  · rename_i b h1 hds p
    split at q
    · rename_i x y c1 c2
      cases q
      exact DS.try_ h.st h.fr h.x.nd (fun W pn xe tk po => R0 L A k (noLam Γ) (X.tr pn xe) W b x (h.try_ tk po) c1) (clauses_ok h c2)
    · cases q
  · cases q
/-- statements, one after the other; a list that is to change no more is frozen ahead of the statement told -/
def sLs (D : StS) (r : Gam → List Stmt → Option (List S)) (posOf : Stmt → Pos) (Γ : Gam) : List Stmt → Option (List S)
  | [] => some []
  | st :: t => match stS D Γ r st, sLs D r posOf Γ t with
    | some s, some ss => match D.fz (posOf st) with
      | none => some (s :: ss)
      | some y => match slot Γ.N y with
        | some i => some (.frz i :: s :: ss)
        | none => none
    | _, _ => none
theorem sLs_ok (h : OkS D G F L k Γ X Wx) {r : Gam → List Stmt → Option (List S)} {posOf : Stmt → Pos} (R : SndR D G F r) : ∀ (sts : List Stmt) (ss : List S), sLs D r posOf Γ sts = some ss → DSs D.gc G X Wx F L A ss sts
  | [], ss, q => by
    cases q
    exact DSs.nil
  | st :: t, ss, q => by
    unfold sLs at q
    split at q
    · rename_i s us h1 h2
      have c := DSs.cons (st_ok h R h1) (sLs_ok h R t us h2)
      split at q
      · cases q
        exact c
      · split at q
        · cases q
          exact DSs.frz c
        · cases q
    · cases q
def stPos : Stmt → Pos
  | .Assign _ _ p => p
  | .AugAssign _ _ _ p => p
  | .Expr _ p => p
  | .If _ _ _ p => p
  | .For _ _ _ _ p => p
  | .While _ _ _ p => p
  | .Return _ p => p
  | .Raise _ _ p => p
  | _ => ⟨0, 0, 0, 0⟩
def cS_ (D : StS) : Nat → Gam → List Stmt → Option (List S)
  | 0 => fun _ _ => none
  | n + 1 => sLs D (cS_ D n) stPos
theorem cS_snd : ∀ n, SndR D G F (cS_ D n)
  | 0 => fun _ _ _ _ _ _ _ _ _ q => (by cases q)
  | n + 1 => fun L A k Γ X Wx sts ss h q => sLs_ok h (cS_snd n) sts ss q
end
end Ci

end
section
set_option linter.all false
set_option autoImplicit false
set_option maxHeartbeats 2000000
set_option maxRecDepth 100000
namespace Ci
open PySem L2 PyProof.Rows
variable [kI : HasK]

theorem Room.le {k j : Nat} {A : Around} (h : Room k A) (hl : j ≤ k) : Room j A := ⟨h.hd, by have := h.dp; omega, by have := h.un; omega⟩

/-- what the program is, told of the written part -/
structure Prg (D : StS) (G : Glob) (P : Program) (w : World) (K : PySem.W.Frag) (mg : Str → Option Value) (base : Heap) : Prop where
  bl : ∀ x, D.d.bl x = true → mg x = none
  bf : ∀ x p, D.d.bf x = some p → ∃ id, p2Id p = some id ∧ mg x = some (.builtin id)
  gI : ∀ x i, D.d.gcI x = some i → ∃ t, mg x = some (.int i t)
  ow : ∀ x f, D.d.own x = some f → ∃ i, G.fi f = some i ∧ i.name = x ∧ FOk K mg i ∧ i.gu = D.d.gu f ∧ ∀ ps, D.d.kw f = some ps → i.kw = true ∧ i.ps = ps
  rs : ∀ x ci, D.cls x = some ci → ∃ (C fI : Addr) (fd : FuncData) (ps : List Str) (f : Str), G.clsA ci = C ∧ G.fldN ci = some f ∧ OexC K C ∧ PySem.W.findIn K (.ref C) "__init__" = some (some (.ref fI)) ∧ PySem.W.findIn K (.ref C) f = some none ∧
    PySem.W.typeIn K (.ref fI) = some (.type "function") ∧ FnOk P w K mg base (L2.CX P w) 1 fI fd ps (spI K f) ∧ Binds K fd ps [] ∧ mg x = some (.ref C)
  hd : ∀ x ci, D.hcl x = some ci → mg x = some (.ref (G.clsA ci)) ∧ XfC K (G.clsA ci) ∧ ExcC K (G.clsA ci) ∧ ∀ f, D.fld ci = some f → G.fldN ci = some f ∧ PySem.W.findIn K (.ref (G.clsA ci)) f = some none
  co : ClsOk G D.gc K

section
variable {D : StS} {G : Glob} {P : Program} {w : World} {K : PySem.W.Frag} {mg : Str → Option Value} {base : Heap} {F : FnT} {L : LamT} {k : Nat} {Γ : Gam} {X : Cx} {Wx : WX}
/-- any context of the program -/
theorem Prg.ok (p : Prg D G X.prog X.w X.K X.mg X.base) (hN : X.N = Γ.N) (nd : X.N.Nodup) (sc : X.env.scope = Γ.sc) (fa : ∀ y, X.fn y = true) (calm : X.calm = true) (kk : X.K = kI.K) (gd : Γ.gu = true → X.A.guards = some []) (tk : Takes X Wx) (rm : Room (k + 2) X.A) (fng : FnG G X.prog X.w X.K X.mg X.base k F) (fnl : FnL G F)
    (lam : ∀ x fi, Γ.hrd x = some fi → ∀ (params : Arguments) (body : Expr) (scope : Scope) (p lpos pos : Pos) (b : C) (A : ActT), lamB params Γ.sc scope = true → (∀ (A : Around) (outer : List Env) (s : Shared) (H : Hp) (E : XK) (f c' : Addr), Room k (A.deeper (LamX.lamEnv X scope s.heap.objs.size f c')) → DE G (LamX.lamCx X A outer s H E scope f c') (fun cls d _ H => E cls d H) F noL noA b body) →
      DE G X Wx F L A (.lam fi b) (.Call (.Name x p) [.Lambda params body scope lpos] [] pos))
    (po : PassesOwn (model X.prog X.w) X.A X.env X.xe) (bk : X.env.blockKind = .function) (st : X.stack = X.env :: X.outer) (fr : X.env.frame = some X.env.locals) : OkS D G F L k Γ X Wx where
  x := { N := hN, nd := nd, sc := sc, fn := fun y _ => fa y, calm := calm, kk := kk, un := by have := rm.un; omega, gd := gd, tk := tk, rm := Room.le rm (by omega), fng := fng, fnl := fnl, bl := p.bl, bf := p.bf, gI := p.gI, lam := lam, ow := p.ow }
  po := po
  fa := fa
  bk := bk
  st := st
  fr := fr
  rs := fun x ci q => by
    obtain ⟨C, fI, fd, ps, f, r1, r2, r3, r4, r5, r6, r7, r9, r10⟩ := p.rs x ci q
    exact ⟨C, fI, fd, ps, f, 1, r1, r2, r3, r4, r5, r6, r7, Room.le rm (by omega), r9, r10⟩
  hd := p.hd
  co := p.co
end

/-- a def that a lambda is handed to: try: slot = (text, it()), clauses; more -/
def HrdOk (D : StS) (G : Glob) (P : Program) (w : World) (K : PySem.W.Frag) (mg : Str → Option Value) (base : Heap) (tab : Nat → Option Fn) (qual : Str) (cdv : Value) (scope : Scope) (x : Str) (fi : Nat) : Prop :=
  ∃ (a : Str) (g cc Pt : Addr) (pg : Arguments) (sg : Scope) (dV kV doc pm cdg ct oc : Value) (an od : Option Addr) (osl : Array (Option Value)) (Ng : List Str) (fn : Fn) (z y : Str) (j m i n : Nat) (cp p1 p2 tp py apos tpos : Pos) (h₁ : ExceptHandler) (hds : List ExceptHandler) (rest : List Stmt) (hs : List Hd) (ss : List S),
    (glB scope x = true ∧ mg x = some (.ref g) ∧ PySem.W.keepIn K (.ref g) = true ∧
      K.lookup g = some ⟨oc, od, .func (PySem.W.fnOf x x pg (.Try [.Assign [.Name y py] (.Tuple [.Constant (.str z) j cp, .Call (.Name a p1) [] [] p2] m tp) apos] (h₁ :: hds) [] [] tpos :: rest) sg dV kV doc pm an cdg ct), osl⟩ ∧ PySem.W.codeIn K cdg x = true ∧
      L2.Binds K (PySem.W.fnOf x x pg (.Try [.Assign [.Name y py] (.Tuple [.Constant (.str z) j cp, .Call (.Name a p1) [] [] p2] m tp) apos] (h₁ :: hds) [] [] tpos :: rest) sg dV kV doc pm an cdg ct) [a] [] ∧ FnScope Ng [a] sg ∧ Ng[0]? = some a ∧ Vis sg a) ∧
    (LamX.TabB base mg cc Pt ∧ cdv = .ref cc ∧ (Pt, (qual ++ ".<locals>.") ++ "<lambda>") ∈ G.T ∧ (∀ p ∈ G.T, p.1 = Pt → p.2 = (qual ++ ".<locals>.") ++ "<lambda>")) ∧
    (nmB x = true ∧ nmB a = true ∧ tab fi = some fn ∧ fn.np = 1 ∧ fn.ns = Ng.length ∧ fn.body = .try_ [.set i (.tup [.cst (.str z), .act])] hs :: ss ∧ Ng[i]? = some y ∧ sg.names.lookup y = some .local ∧ 1 ≤ Ng.length) ∧
    (clausesE D ⟨Ng, sg, fun _ => true, false, fun _ => none⟩ (h₁ :: hds) = some hs ∧ cS_ D n ⟨Ng, sg, fun _ => true, false, fun _ => none⟩ rest = some ss)
/-- a def -/
def DefOk (D : StS) (G : Glob) (P : Program) (w : World) (K : PySem.W.Frag) (mg : Str → Option Value) (base : Heap) (tab : Nat → Option Fn) (f : Nat) (i : FI) : Prop :=
  ∃ (name qual : Str) (params : Arguments) (body : List Stmt) (scope : Scope) (dV kV doc pm cdv ct oc : Value) (an od : Option Addr) (osl : Array (Option Value)) (N : List Str) (ss : List S) (hrd : Str → Option Nat) (n : Nat),
    K.lookup i.addr = some ⟨oc, od, .func i.fd, osl⟩ ∧ i.fd = PySem.W.fnOf name qual params body scope dV kV doc pm an cdv ct ∧ PySem.W.codeIn K cdv qual = true ∧ FnScope N i.ps scope ∧ tab f = some ⟨i.ps.length, N.length, ss⟩ ∧
    cS_ D n ⟨N, scope, fun _ => true, i.gu, hrd⟩ body = some ss ∧ i.ps.length ≤ N.length ∧ ∀ x fi, hrd x = some fi → HrdOk D G P w K mg base tab qual cdv scope x fi

section
variable {D : StS} {G : Glob} {P : Program} {w : World} {K : PySem.W.Frag} {mg : Str → Option Value} {base : Heap} {tab : Nat → Option Fn} {F : FnT} {k : Nat}
theorem kind_fn {sc : Scope} {env : Env} (h : env.scope = sc) (hk : sc.kind = .function) : env.blockKind = .function := by
  unfold Env.blockKind
  rw [h, hk]
  rfl
theorem lamOf_calm {Gc : Cls} {fi : Nat} {A : ActT} {S : List O} {c : Nat} {f : PyData} {S' : List O} : lamOf Gc tab F fi A S ≠ .err c f S' := by
  unfold lamOf
  split
  · intro h; cases h
  · split
    · cases exs Gc F (fun _ _ _ => .stuck) A _ (List.replicate _ none) S <;> (intro h; cases h)
    · intro h; cases h
theorem bind0 {q : Str} {body : Expr} {scope : Scope} {cl : List (Str × Addr)} {pm cv ctv : Value} : bindArgs (PySem.W.kla_fn "<lambda>" q ⟨[], [], none, [], [], none, []⟩ body scope cl pm cv ctv) ⟨[], []⟩ = pure [] := by
  rfl
theorem def0 {env : Env} : defaultsOf ⟨[], [], none, [], [], none, []⟩ env = ([], []) := rfl
/-- the def that hears, in its own context -/
theorem heard_ok (p : Prg D G P w K mg base) (kk : K = kI.K) (fng : FnG G P w K mg base k F) (fnl : FnL G F) {A : Around} {outer : List Env} {s : Shared} {H : Hp} {x : Str} {g : Addr} {cdg : Value} {Ng : List Str} {a : Str} {sg : Scope} (Sg : FnScope Ng [a] sg) (rm : Room (k + 2) (A.deeper (envOfC x sg s.heap.objs.size g cdg))) :
    OkS D G F noL k ⟨Ng, sg, fun _ => true, false, fun _ => none⟩ (cxOf C8.CX0 P w K mg base Ng x sg g cdg A outer s H C8.E0).nox (fun _ _ _ _ => False) :=
  Prg.ok (X := (cxOf C8.CX0 P w K mg base Ng x sg g cdg A outer s H C8.E0).nox) p rfl Sg.nd rfl (fun _ => rfl) rfl kk (fun z => by cases z) LamX.takes0 rm fng fnl (fun x fi z => by cases z) (fun _ _ z => z.elim) (kind_fn rfl Sg.kind) rfl rfl
theorem lam_of (p : Prg D G P w K mg base) (kk : K = kI.K) (fng : FnG G P w K mg base k F) (fnl : FnL G F) {qual : Str} {cdv : Value} {scope : Scope} {x : Str} {fi : Nat} (hh : HrdOk D G P w K mg base tab qual cdv scope x fi) {CX : CXT} {N : List Str} {f : Addr} {A : Around} {outer : List Env} {s : Shared} {H : Hp} {E : XK} {Wx : WX}
    (rm : Room (k + 3) (A.deeper (envOfC qual scope s.heap.objs.size f cdv))) (params : Arguments) (body : Expr) (sc2 : Scope) (q lpos pos : Pos) (b : C) (Aa : ActT) (hl : lamB params scope sc2 = true)
    (hb : ∀ (A' : Around) (outer' : List Env) (s' : Shared) (H' : Hp) (E' : XK) (f' c' : Addr), Room k (A'.deeper (LamX.lamEnv (cxOf CX P w K mg base N qual scope f cdv A outer s H E) sc2 s'.heap.objs.size f' c')) → DE G (LamX.lamCx (cxOf CX P w K mg base N qual scope f cdv A outer s H E) A' outer' s' H' E' sc2 f' c') (fun cls d _ H => E' cls d H) F noL noA b body) :
    DE G (cxOf CX P w K mg base N qual scope f cdv A outer s H E) Wx F (lamOf D.gc tab F) Aa (.lam fi b) (.Call (.Name x q) [.Lambda params body sc2 lpos] [] pos) := by
  obtain ⟨a, g, cc, Pt, pg, sg, dV, kV, doc, pm, cdg, ct, oc, an, od, osl, Ng, fn, z, y, j, m, i, n, cp, p1, p2, tp, py, apos, tpos, h₁, hds, rest, hs, ss, ⟨a1, a2, a3, a4, a5, a6, a7, a8, a9⟩, ⟨b1, b2, b3, b4⟩, ⟨c1, c2, c3, c4, c5, c6, c7, c8, c9⟩, d1, d2⟩ := hh
  unfold lamB at hl
  simp only [Bool.and_eq_true, List.isEmpty_iff, Option.isNone_iff_eq_none] at hl
  obtain ⟨⟨⟨⟨⟨⟨⟨l1, l2⟩, l3⟩, l4⟩, l5⟩, l6⟩, l7⟩, l8⟩ := hl
  obtain ⟨q1, q2, q3, q4, q5, q6, q7⟩ := params
  simp only at l1 l2 l3 l4 l5 l6 l7
  subst l1 l2 l3 l4 l5 l6 l7
  have eq : (cxOf CX P w K mg base N qual scope f cdv A outer s H E).env.qual = qual ++ ".<locals>." := rfl
  refine DE.lam (fi := fi) (x := x) (a := a) (Ng := Ng) (sg := sg) (g := g) (cc := cc) (P := Pt) (r := lamOf D.gc tab F fi) (X := cxOf CX P w K mg base N qual scope f cdv A outer s H E) (fun _ _ => rfl) (fun A S c f S' => lamOf_calm) ?_ a2 a3 a4 a5 a6 a7 a8 a9 ?_ ?_ ?_ ?_ ?_ ?_ ?_ ?_ ?_ hb (nmB_ok c1).1 (nmB_ok c2).1 (nmB_ok c2).2.1
  · exact glB_ok rfl a1
  rotate_left
  · exact b1
  · exact b2
  · rw [eq]
    exact b3
  · rw [eq]
    exact b4
  · exact Room.le rm (by omega)
  · exact LamX.lamS_by l8
  · exact def0
  · exact fun q cl pm cv ctv => bind0
  have rz : ∀ (s' : Shared), Room (k + 2) ((A.deeper (envOfC qual scope s.heap.objs.size f cdv)).deeper (envOfC x sg s'.heap.objs.size g cdg)) := fun s' => Room.deeper rm _
  refine gives_try (tab := tab) (fi := fi) (fn := fn) (hs := hs) (i := i) (c := .tup [.cst (.str z), .act]) (ss := ss) c3 c4 c5 c6 a7.nd c7 c8 c9 (fun _ _ => rfl) (fun s' H' f' c' tl A' B μ S W0 pn xe h0 tk => DE0.tup (DE0.act h0 tk) rfl rfl) (fun s' H' => ?_) (fun s' H' A' => ?_)
  · exact clauses_ok (heard_ok p kk fng fnl a7 (rz s')) d1
  · exact cS_snd n noL A' k _ _ _ rest ss (heard_ok p kk fng fnl a7 (rz s')) d2
end
end Ci

end
section
set_option linter.all false
set_option autoImplicit false
set_option maxHeartbeats 1000000
set_option maxRecDepth 100000
namespace Ci
open PySem L2 PyProof.Rows
variable [kI : HasK]

theorem wrs_get {H : Hp} {μ : List Addr} {Lv : Addr → Prop} : ∀ {ws : List W} {vs : List V}, WRs H μ Lv ws vs → ∀ (i : Nat) (w : W), ws[i]? = some w → ∃ v, vs[i]? = some v ∧ WR H μ Lv w v
  | [], vs, h, i, w, e => by cases e
  | u :: ws, vs, h, i, w, e => by
    obtain ⟨v, r, ev, h1, h2⟩ := h
    subst ev
    cases i with
    | zero => cases e; exact ⟨v, rfl, h1⟩
    | succ i => exact wrs_get h2 i w (by simpa using e)
theorem env_start {H : Hp} {μ : List Addr} {Lv : Addr → Prop} {N : List Str} {ws : List W} {vs : List V} (h : WRs H μ Lv ws vs) : EnvR H μ Lv (startE N.length ws) (L2.start N vs) := by
  have hl := h.length
  unfold startE L2.start
  refine ⟨by simp [hl], fun i w e => ?_⟩
  by_cases hi : i < ws.length
  · rw [List.getElem?_append_left (by simpa using hi), List.getElem?_map] at e
    cases hw : ws[i]? with
    | none => rw [hw] at e; cases e
    | some u =>
      rw [hw] at e
      cases e
      obtain ⟨v, h1, h2⟩ := wrs_get h i _ hw
      refine ⟨v, ?_, h2⟩
      rw [List.getElem?_append_left (by simpa [← hl] using hi), List.getElem?_map, h1]
      rfl
  · rw [List.getElem?_append_right (by simpa using Nat.le_of_not_lt hi), List.getElem?_replicate] at e
    split at e <;> cases e
theorem out_ok {G : Glob} {B : Addr → Prop} {r : SR} {μ : List Addr} {S : List O} {H : Hp} {E : XK} {Q : VK} (o : OKE G B r.out μ S H E Q) : OKS G (fun cls d _ H => E cls d H) B r μ S H { nx := fun _ H' => Q .non H', rt := Q } := by
  cases r with
  | next ρ S2 => exact fun σ' μ' H' e' r' er' => o .non μ' H' e' r' (by simp only [WR, Dat])
  | ret w S2 => exact o
  | err c f ρ S2 => exact fun cls d σ' μ' H' e' r' er' z => o cls d μ' H' e' r' z
  | stuck => exact o

section
variable {D : StS} {G : Glob} {P : Program} {w : World} {K : PySem.W.Frag} {mg : Str → Option Value} {base : Heap} {tab : Nat → Option Fn}
theorem fnl_ok (defs : ∀ f i, G.fi f = some i → DefOk D G P w K mg base tab f i) : ∀ n, FnL G (runF D.gc tab n)
  | 0 => fun f i hi ws S h => absurd rfl h
  | n + 1 => fun f i hi ws S h => by
    obtain ⟨name, qual, params, body, scope, dV, kV, doc, pm, cdv, ct, oc, an, od, osl, N, ss, hrd, m, lk, fdq, hcd, Sc, htab, hc, hN, hh⟩ := defs f i hi
    unfold runF at h
    rw [htab] at h
    simp only at h
    by_cases e : ws.length = i.ps.length
    · exact e
    · rw [if_neg e] at h
      exact absurd rfl h
theorem fn_ok (p : Prg D G P w K mg base) (kk : K = kI.K) (defs : ∀ f i, G.fi f = some i → DefOk D G P w K mg base tab f i) : ∀ n, FnG G P w K mg base (4 * n) (runF D.gc tab n)
  | 0 => fun f i hi A outer s H args us vs ws B μ S Q E rm hgd e0 hb rv hl hw rl o => o.elim
  | n + 1 => fun f i hi A outer s H args us vs ws B μ S Q E rm hgd e0 hb rv hl hw rl o => by
    have IH := fn_ok p kk defs n
    have fnl := fnl_ok defs n
    obtain ⟨name, qual, params, body, scope, dV, kV, doc, pm, cdv, ct, oc, an, od, osl, N, ss, hrd, m, lk, fdq, hcd, Sc, htab, hc, hN, hh⟩ := defs f i hi
    rw [fdq] at lk hb
    have hlen : vs.length = i.ps.length := by rw [rv.length]; exact hl
    have hwl : ws.length = i.ps.length := by rw [hw.length]; exact hlen
    unfold runF at o
    rw [htab] at o
    simp only [if_pos hwl] at o
    refine LamX.run_ofS (CX := L2.CX P w) (k := 4 * n + 3) lk hcd Sc rm e0 hb rv hlen fun rb => ?_
    have ok : OkS D G (runF D.gc tab n) (lamOf D.gc tab (runF D.gc tab n)) (4 * n) ⟨N, scope, fun _ => true, i.gu, hrd⟩ (cxOf (L2.CX P w) P w K mg base N qual scope i.addr cdv A outer s H E) (fun cls d _ H => E cls d H) :=
      Prg.ok (X := cxOf (L2.CX P w) P w K mg base N qual scope i.addr cdv A outer s H E) p rfl Sc.nd rfl (fun _ => rfl) rfl kk hgd (takes_of (E := E) rfl rfl rfl rfl) (Room.le rb (by omega)) IH fnl
        (fun x fi q params body sc2 p' lpos pos b Aa hl hb => lam_of p kk IH fnl (hh x fi q) rb params body sc2 p' lpos pos b Aa hl hb) (passes_of rfl) (kind_fn rfl Sc.kind) rfl rfl
    obtain ⟨t, ht, q⟩ := cS_snd m (lamOf D.gc tab (runF D.gc tab n)) noA (4 * n) _ _ _ body ss ok hc
    exact ⟨t, ht, q (startE N.length ws) (L2.start N vs) B μ S H _ (env_start hw) rl (out_ok o)⟩
end
end Ci

end
section
set_option linter.all false
set_option autoImplicit false
set_option maxHeartbeats 1000000
set_option maxRecDepth 100000
namespace Ci
open PySem L2 PyProof.Rows
variable [kI : HasK]

theorem init_ok {P : Program} {w : World} {K : PySem.W.Frag} {mg : Str → Option Value} {base : Heap} {fI : Addr} {name qual f x1 x2 : Str} {params : Arguments} {scope : Scope} {dV kV doc pm cdv ct oc : Value} {an od : Option Addr} {osl : Array (Option Value)} {N : List Str} {p1 p2 p3 pos : Pos}
    (lk : K.lookup fI = some ⟨oc, od, .func (PySem.W.fnOf name qual params [.Assign [.Attribute (.Name x1 p1) f p2] (.Name x2 p3) pos] scope dV kV doc pm an cdv ct), osl⟩) (hcd : PySem.W.codeIn K cdv qual = true) (Sc : FnScope N [x1, x2] scope)
    (h0 : N[0]? = some x1) (h1 : N[1]? = some x2) (v1 : visB scope x1 = true) (v2 : visB scope x2 = true) (n1 : nmB x1 = true) (n2 : nmB x2 = true) :
    FnOk P w K mg base (L2.CX P w) 1 fI (PySem.W.fnOf name qual params [.Assign [.Attribute (.Name x1 p1) f p2] (.Name x2 p3) pos] scope dV kV doc pm an cdv ct) [x1, x2] (spI K f) where
  len := fun vs H Q E ⟨a, C, y, e, _⟩ => by rw [e]; rfl
  run := fun A outer s H args us vs Q E rm e0 hb rv ⟨a, C, y, ev, T, nf, hx, q⟩ => by
    subst ev
    refine LamX.run_ofS (CX := L2.CX P w) (k := 0) lk hcd Sc rm e0 hb rv rfl fun rb => ?_
    have vs1 : Vis (cxOf (L2.CX P w) P w K mg base N qual scope fI cdv A outer s H E).env.scope x1 := visB_ok rfl v1
    have vs2 : Vis (cxOf (L2.CX P w) P w K mg base N qual scope fI cdv A outer s H E).env.scope x2 := visB_ok rfl v2
    have hp := ps_ost (X := cxOf (L2.CX P w) P w K mg base N qual scope fI cdv A outer s H E) (f := f) (p' := p2) (pos := pos) (pe_var (pos := p1) h0 vs1 (nmB_ok n1).1 (nmB_ok n1).2.1) (pe_var (pos := p3) h1 vs2 (nmB_ok n2).1 (nmB_ok n2).2.1) rfl
    refine ⟨_, pss_cons hp pss_nil, ?_⟩
    have g1 : (L2.start N [V.ref a, y])[1]? = some (some y) := rfl
    have g0 : (L2.start N [V.ref a, y])[0]? = some (some (V.ref a)) := rfl
    exact ⟨y, g1, .ref a, g0, a, C, rfl, T, nf, .inl ⟨hx, fun dx hdx hne => q dx hdx hne⟩⟩
end Ci

end
section
set_option linter.all false
set_option autoImplicit false
set_option maxHeartbeats 1000000
set_option maxRecDepth 100000
namespace Ci
open PySem L2 PySem.Spec PyProof.Rows
variable [kI : HasK]

/-- the heap that the law is entered with: the script, the tables -/
structure Entry (K : PySem.W.Frag) (cs : List (Addr × Addr)) (a : Addr) (ns : List Int) (P : Program) (w : World) (h : Heap) (H : Hp) : Prop where
  tb : ∀ p ∈ cs, H p.2 = some (.tbl #[])
  sh : ∀ b, H b = none ∨ b ∈ cs.map (·.2) ∨ ∃ o xs, H b = some (.frz o (.lst xs))
  sq : SqL K H a (ns.map V.int)
  ok : HOk P w H h
  at_ : ∀ b, H b ≠ none → b = a ∨ b ∈ cs.map (·.2)
  ka : H a ≠ none → K.lookup a = none
section
variable {P : Program} {w : World} {K : PySem.W.Frag} {mg mb : Str → Option Value} {fa a : Addr} {cs : List (Addr × Addr)} {fd : FuncData} {s1 : Shared} {vs : List Value} {ns : List Int}
theorem entry_is (KX : K.In s1.heap) (hT : ∀ p ∈ cs, s1.heap.get? p.2 = some { cls := .none, data := .fields #[] }) (ha : s1.heap.get? a = some { cls := .type "list", data := .seq vs.toArray }) (hi : IntsAre vs ns) (hl : ns.length ≤ sizeLine) : ∃ H, Entry K cs a ns P w s1.heap H := by
  have rv := vals_ints hi
  have len := hi.length
  have isT : ∀ b : Addr, b ∈ cs.map (·.2) → s1.heap.get? b = some { cls := .none, data := .fields #[] } := fun b m => by
    obtain ⟨p, hp, e⟩ := List.mem_map.mp m
    exact e ▸ hT p hp
  have mem : ∀ p ∈ cs, p.2 ∈ cs.map (·.2) := fun p hp => List.mem_map.mpr ⟨p, hp, rfl⟩
  have aT : a ∉ cs.map (·.2) := fun z => by
    have q := (isT a z).symm.trans ha
    have q2 : Data.fields #[] = Data.seq vs.toArray _ := congrArg Obj.data (Option.some.inj q)
    cases q2
  by_cases hk : K.lookup a = none
  · refine ⟨fun b => if b = a then some (.frz { cls := .type "list", data := .seq vs.toArray } (.lst (ns.map V.int))) else if b ∈ cs.map (·.2) then some (.tbl #[]) else none, ⟨fun p hp => ?_, fun b => ?_, ?_, fun b u z => ?_, fun b z => ?_, fun _ => hk⟩⟩
    · have n : p.2 ≠ a := fun z => aT (z ▸ mem p hp)
      show (if p.2 = a then _ else if p.2 ∈ cs.map (·.2) then _ else _) = _
      rw [if_neg n, if_pos (mem p hp)]
    · by_cases h1 : b = a
      · exact .inr (.inr ⟨_, _, if_pos h1⟩)
      · by_cases h2 : b ∈ cs.map (·.2)
        · exact .inr (.inl h2)
        · exact .inl (by show (if b = a then _ else if b ∈ cs.map (·.2) then _ else _) = _; rw [if_neg h1, if_neg h2])
    · exact .inl (.inr ⟨_, if_pos rfl⟩)
    · have z : (if b = a then some (HO.frz { cls := .type "list", data := .seq vs.toArray } (.lst (ns.map V.int))) else if b ∈ cs.map (·.2) then some (.tbl #[]) else none) = some u := z
      by_cases h1 : b = a
      · rw [if_pos h1] at z
        cases z
        subst h1
        exact ⟨ha, by rw [List.length_map]; exact hl, vs, _, rv, ha⟩
      · rw [if_neg h1] at z
        by_cases h2 : b ∈ cs.map (·.2)
        · rw [if_pos h2] at z
          cases z
          exact isT b h2
        · rw [if_neg h2] at z
          cases z
    · by_cases h1 : b = a
      · exact .inl h1
      · by_cases h2 : b ∈ cs.map (·.2)
        · exact .inr h2
        · exact absurd (by show (if b = a then _ else if b ∈ cs.map (·.2) then _ else _) = _; rw [if_neg h1, if_neg h2]) z
  · obtain ⟨o, ho⟩ := Option.ne_none_iff_exists'.mp hk
    have e := (KX a o ho).symm.trans ha
    have e := Option.some.inj e
    subst e
    refine ⟨fun b => if b ∈ cs.map (·.2) then some (.tbl #[]) else none, ⟨fun p hp => if_pos (mem p hp), fun b => ?_, .inr ⟨_, vs.toArray, _, ho, rfl, rfl, rfl, by rw [List.size_toArray, len]; exact hl, by simpa using rv⟩, fun b u z => ?_, fun b z => ?_, fun z => absurd (if_neg aT) z⟩⟩
    · by_cases h2 : b ∈ cs.map (·.2)
      · exact .inr (.inl h2)
      · exact .inl (if_neg h2)
    · have z : (if b ∈ cs.map (·.2) then some (HO.tbl #[]) else none) = some u := z
      by_cases h2 : b ∈ cs.map (·.2)
      · rw [if_pos h2] at z
        cases z
        exact isT b h2
      · rw [if_neg h2] at z
        cases z
    · by_cases h2 : b ∈ cs.map (·.2)
      · exact .inr h2
      · exact absurd (if_neg h2) z
theorem entry_env {H : Hp} (Y : Entry K cs a ns P w s1.heap H) (KX : K.In s1.heap) (hns : s1.heap.Ns mainGlobals mg) (hb : s1.heap.Ns builtinsNs mb) (hbb : ∀ x : Str, x ≠ "__name__" → mb x = bootBuiltins x) (hlim : s1.heap.NoLimit) (hg : s1.gens = #[])
    (hT : ∀ p ∈ cs, s1.heap.get? p.2 = some { cls := .none, data := .fields #[] }) (nT : ∀ p ∈ cs, K.lookup p.2 = none) (C : ∀ p ∈ cs, PySem.W.CodeHd s1.heap p.1 p.2)
    (hbm : ∃ (bm : Addr) (ob : Obj), mg "__builtins__" = some (.ref bm) ∧ bm ≠ builtinsNs ∧ s1.heap.get? bm = some ob ∧ ob.cls = .type "module" ∧ ob.dict = some builtinsNs ∧ ob.data = .plain)
    (ha : s1.heap.get? a = some { cls := .type "list", data := .seq vs.toArray }) :
    ∃ base : Heap, K.In base ∧ base.Ns mainGlobals mg ∧ (∀ p ∈ cs, LamX.TabB base mg p.1 p.2) ∧ Env0 P w K mg base callerA [] s1 H := by
  have tabAt : ∀ b : Addr, b ∈ cs.map (·.2) → s1.heap.get? b = some { cls := .none, data := .fields #[] } := fun b m => by
    obtain ⟨p, hp, e⟩ := List.mem_map.mp m
    exact e ▸ hT p hp
  have seen : ∀ {b : Addr} {o : Obj}, s1.heap.get? b = some o → H b = none → (hidT s1.heap H).get? b = some o := fun e n => hidT_get e n
  have unseen : ∀ {b : Addr} {o : Obj}, s1.heap.get? b = some o → (∀ us n, o.data ≠ .seq us n) → o.data ≠ .fields #[] → H b = none := fun {b o} e d1 d2 => by
    apply Classical.byContradiction
    intro z
    rcases Y.at_ b z with q | q
    · rw [q, ha] at e
      cases e
      exact d1 _ _ rfl
    · rw [tabAt b q] at e
      cases e
      exact d2 rfl
  have dicts : ∀ {b : Addr} {o : Obj} {es : Array DictEntry} {ep : Nat}, s1.heap.get? b = some o → o.data = .dict es ep → H b = none := fun {b o es ep} e d => unseen e (fun us n z => by rw [d] at z; cases z) (fun z => by rw [d] at z; cases z)
  have spaces : ∀ {b : Addr} {m : Str → Option Value}, s1.heap.Ns b m → (hidT s1.heap H).Ns b m := fun {b m} ⟨o, es, ep, e, d, r⟩ => ⟨o, es, ep, seen e (dicts e d), d, r⟩
  have kin : K.In (hidT s1.heap H) := fun b o e => seen (KX b o e) (Classical.byContradiction fun z => by
    rcases Y.at_ b z with q | q
    · subst q
      rw [Y.ka z] at e
      cases e
    · obtain ⟨p, hp, ep⟩ := List.mem_map.mp q
      rw [← ep, nT p hp] at e
      cases e)
  have md : L2.Mod K mg (hidT s1.heap H) := ⟨kin, spaces hns, ⟨mb, spaces hb, hbb⟩, let ⟨mc, h1, h2⟩ := hlim; ⟨mc, spaces h1, h2⟩⟩
  refine ⟨hidT s1.heap H, kin, spaces hns, fun p hp => ⟨?_, ?_, fun z => ?_⟩, ⟨rfl, md, fun b o e => of_hidT e, Nat.le_of_eq (hidT_size _ _), trivial, fun b m => absurd (show b ∈ ([] : List Addr) from m) (by simp), Y.ok, .of_eq hg⟩⟩
  · obtain ⟨o, us, file, tf, fl, tg, inF, text, tt, e1, r1, r2, r3, rest⟩ := C p hp
    refine ⟨o, us, file, tf, fl, tg, inF, text, tt, seen e1 (unseen e1 (fun vs n z => ?_) fun z => ?_), r1, r2, r3, rest⟩
    · rw [r2] at z
      cases z
    · rw [r2] at z
      cases z
      simp at r3
  · obtain ⟨bm, ob, b1, b2, b3, b4, b5, b6⟩ := hbm
    have n1 : bm ≠ mainGlobals := fun q => by
      obtain ⟨o, es, ep, e, d, _⟩ := hns
      rw [q, e] at b3
      cases b3
      rw [d] at b6
      cases b6
    have n2 : bm ≠ p.2 := fun q => by
      rw [q, hT p hp] at b3
      cases b3
      cases b6
    refine ⟨bm, ob, b1, b2, n1, n2, seen b3 (unseen b3 (fun vs n z => ?_) fun z => ?_), b4, b5, b6⟩
    · rw [b6] at z
      cases z
    · rw [b6] at z
      cases z
  · obtain ⟨o, es, ep, e, d, _⟩ := hns
    rw [z, hT p hp] at e
    cases e
    cases d
/-- what the law's call leaves -/
theorem entry_end {H : Hp} (Y : Entry K cs a ns P w s1.heap H) (hT : ∀ p ∈ cs, s1.heap.get? p.2 = some { cls := .none, data := .fields #[] }) (C : ∀ p ∈ cs, PySem.W.CodeHd s1.heap p.1 p.2) {v : V} {H' : Hp} {s2 : Shared} (un : Un (frs []) [] H H' s1.heap s2.heap) (ok2 : HOk P w H' s2.heap) : OldK s1.heap s2.heap := by
  have keep : ∀ b o, b ∉ cs.map (·.2) → s1.heap.get? b = some o → s2.heap.get? b = some o := fun b o nb e => by
    rcases Y.sh b with z | z | ⟨ob, xs, z⟩
    · exact un.keep b o e z (fun m => absurd (show b ∈ ([] : List Addr) from m) (by simp)) (by simp)
    · exact absurd z nb
    · obtain ⟨e1, _⟩ := Y.ok b _ z
      obtain ⟨e2, _⟩ := ok2 b _ (un.frzs b ob _ z)
      rw [e] at e1
      cases e1
      exact e2
  have grown : ∀ p ∈ cs, ∃ more : Array Value, s2.heap.get? p.2 = some { cls := .none, data := .fields more } := fun p hp => by
    obtain ⟨more, z⟩ := un.tbls p.2 #[] (Y.tb p hp)
    exact ⟨_, ok2 p.2 _ z⟩
  refine ⟨fun b o e => ?_, fun b o e => ?_⟩
  · by_cases m : b ∈ cs.map (·.2)
    · obtain ⟨p, hp, ep⟩ := List.mem_map.mp m
      obtain ⟨more, hm⟩ := grown p hp
      subst ep
      have e' := (hT p hp).symm.trans e
      cases e'
      exact .inr (.inl ⟨((C p hp).tab (hT p hp)).isCodeTable, rfl, #[], more, rfl, by rw [Array.empty_append]; exact hm⟩)
    · exact .inl (keep b o m e)
  · by_cases m : b ∈ cs.map (·.2)
    · obtain ⟨p, hp, ep⟩ := List.mem_map.mp m
      obtain ⟨more, hm⟩ := grown p hp
      exact ⟨_, ep ▸ hm⟩
    · exact ⟨o, keep b o m e⟩
end

section
variable {G : Glob} {F : FnT} {P : Program} {w : World} {K : PySem.W.Frag} {mg mb : Str → Option Value} {fa a : Addr} {cs : List (Addr × Addr)} {fd : FuncData} {s1 : Shared} {vs : List Value} {ns : List Int} {k f : Nat} {i : FI} {x : Str}
theorem ints_dat {H : Hp} {Lv : Addr → Prop} : ∀ ns : List Int, DatL H Lv (ns.map .int) (ns.map V.int)
  | [] => by simp only [List.map_nil, DatL]
  | n :: ns => by
    simp only [List.map_cons, DatL]
    exact ⟨_, _, rfl, by simp only [Dat], ints_dat ns⟩
theorem law_run (hK : K = kI.K) (KX : K.In s1.heap) (hns : s1.heap.Ns mainGlobals mg) (hb : s1.heap.Ns builtinsNs mb) (hbb : ∀ x : Str, x ≠ "__name__" → mb x = bootBuiltins x) (hlim : s1.heap.NoLimit) (hg : s1.gens = #[])
    (hT : ∀ p ∈ cs, s1.heap.get? p.2 = some { cls := .none, data := .fields #[] }) (nT : ∀ p ∈ cs, K.lookup p.2 = none) (C : ∀ p ∈ cs, PySem.W.CodeHd s1.heap p.1 p.2)
    (hbm : ∃ (bm : Addr) (ob : Obj), mg "__builtins__" = some (.ref bm) ∧ bm ≠ builtinsNs ∧ s1.heap.get? bm = some ob ∧ ob.cls = .type "module" ∧ ob.dict = some builtinsNs ∧ ob.data = .plain)
    (ha : s1.heap.get? a = some { cls := .type "list", data := .seq vs.toArray }) (hi : IntsAre vs ns) (hl : ns.length ≤ sizeLine) (hr : Room k callerA)
    (fng : ∀ base : Heap, K.In base → base.Ns mainGlobals mg → (∀ p ∈ cs, LamX.TabB base mg p.1 p.2) → FnG G P w K mg base k F) (hfi : G.fi f = some i) (hps : i.ps = [x]) (hbind : ∀ (s : Shared) (u : Value), BindsTo s i.fd ⟨[u], []⟩ [(x, u)]) (hfa : i.addr = fa)
    (hTT : ∀ q ∈ G.T, q.1 ∈ cs.map (·.2)) (hrun : ∃ S', F f [.scr (ns.map .int)] [] = .ok (.d (.bool true)) S') :
    codeAny (model P w) callerA (.call (.ref fa) ⟨[.ref a], []⟩) (fun r s' => r = .ok (.ret (.bool true)) ∧ OldK s1.heap s'.heap ∧ s'.os = s1.os ∧ AllBare s'.gens) s1 := by
  obtain ⟨H, Y⟩ := entry_is (P := P) (w := w) (K := K) KX hT ha hi hl
  obtain ⟨base, b1, b2, b3, e0⟩ := entry_env Y KX hns hb hbb hlim hg hT nT C hbm ha
  obtain ⟨S', hS⟩ := hrun
  subst hfa
  have rel : Rel G.T (fun _ => False) [] [] H := ⟨rfl, fun i j a oi oj h => by simp at h, fun i a o h => by simp at h, fun q hq => by
    obtain ⟨p, hp, e⟩ := List.mem_map.mp (hTT q hq)
    rw [← e]
    exact LamX.TabS.nil (Y.tb p hp), fun a z => z.elim, fun a z => z.elim⟩
  have nl : ¬ Live (fun _ => False) [] [] a := fun z => by
    rcases z with z | ⟨n, o, h, _⟩
    · exact z
    · simp at h
  have wr : WRs H [] (Live (fun _ => False) [] []) [.scr (ns.map .int)] [V.ref a] := ⟨_, [], rfl, ⟨a, ns.map V.int, rfl, by
    rcases Y.sq with q | q
    · exact .inl ⟨q, nl⟩
    · rw [hK] at q
      exact .inr q, ints_dat ns⟩, rfl⟩
  refine codeAny_mono (fng base b1 b2 b3 f i hfi callerA [] s1 H ⟨[.ref a], []⟩ [.ref a] [V.ref a] [.scr (ns.map .int)] (fun _ => False) [] [] (fun v _ => v = .bl true) (fun _ _ _ => False) hr (fun _ => rfl) e0 (by rw [hps]; exact hbind s1 (.ref a)) (.cons rfl .nil) (by rw [hps]; rfl) wr rel ?_) fun r s2 h => ?_
  · rw [hS]
    intro v μ' H' e' r' w'
    exact (by simpa only [WR, Dat] using w' : v = .bl true)
  · cases r with
    | error e =>
      obtain ⟨_, _, _, _, _, _, _, _, _, _, _, _, z⟩ := h
      exact z.elim
    | ok fl =>
      cases fl with
      | next => exact h.elim
      | brk => exact h.elim
      | cont => exact h.elim
      | ret u =>
        obtain ⟨v, H', os, bare, un, ok2, rv, q⟩ := h
        subst q
        obtain rfl : u = Value.bool true := rv
        exact ⟨rfl, entry_end (v := .bl true) Y hT C un ok2, os, bare⟩
/-- what is known where the law stands -/
def LawAtG (l : PySem.W.OpenLaw) (w : World) (k n : Nat) (x : Str) (mg : Str → Option Value) (fa : Addr) (h : Heap) : Prop :=
  ∃ (K : PySem.W.Frag) (cs : List (Addr × Addr)) (G : Glob) (F : FnT) (f : Nat) (i : FI), K.In h ∧ (∀ p ∈ cs, h.get? p.2 = some { cls := .none, data := .fields #[] }) ∧ (∀ p ∈ cs, K.lookup p.2 = none) ∧ (∀ p ∈ cs, PySem.W.CodeHd h p.1 p.2) ∧ (∀ q ∈ G.T, q.1 ∈ cs.map (·.2)) ∧
    G.fi f = some i ∧ i.ps = [x] ∧ i.addr = fa ∧ (∀ (s : Shared) (u : Value), BindsTo s i.fd ⟨[u], []⟩ [(x, u)]) ∧
    (∀ base : Heap, K.In base → base.Ns mainGlobals mg → (∀ p ∈ cs, LamX.TabB base mg p.1 p.2) → @FnG ⟨K⟩ G l.prog w K mg base k F) ∧
    ∀ ns : List Int, ns.length ≤ n → (∀ z ∈ ns, Builtin.Int.intBits z ≤ 1048576) → ∃ S', F f [.scr (ns.map .int)] [] = .ok (.d (.bool true)) S'
end
theorem walk_G {l : PySem.W.OpenLaw} {n k : Nat} {q : Program} {loose : List Str} {XP : (Str → Option Value) → Heap → Prop} {YP : World → Heap → Prop} {d : DefRec} {x : Str} (hn : l.most = some n) (hn2 : n ≤ sizeLine) (hdf : d.params.defaults = []) (hr : Room k callerA)
    (A : ∀ (w : World) (mg : Str → Option Value) (fa : Addr) (h : Heap), YP w h → h.Ns mainGlobals mg → mg d.name = some (.ref fa) → @LawAtG l w k n x mg fa h) : PySem.W.WalkO q loose XP YP l.row.toRowW d [] (fun f vs => PySem.call f vs) := by
  refine Att.attach_callB hn hdf fun w s0 s1 mg mb fa o pm cd doc a vs ns Gd Y ho hd hcd hmg hobj hints hlen hbits hg => ?_
  obtain ⟨K, cs, G, F, f, i, KX, hT, nT, C, hTT, hfi, hps, hfa, hbind, fng, run⟩ := A w mg fa _ Y Gd.T.g hmg
  exact @law_run ⟨K⟩ G F l.prog w K mg mb fa a cs s1 vs ns k f i x rfl KX Gd.T.g Gd.T.b Gd.T.builtins Gd.T.nolimit hg hT nT C Gd.T.bmain hobj hints (Nat.le_trans hlen hn2) hr fng hfi hps hbind hfa hTT (run ns hlen hbits)
end Ci

end
section
set_option autoImplicit false
namespace Po
abbrev Pt := Int × Int
def up (p : Pt) : Bool := decide (0 < p.2) || (decide (p.2 = 0) && decide (0 < p.1))
def crs (a b : Pt) : Int := a.1 * b.2 - a.2 * b.1
def bef (a b : Pt) : Bool := if up a ≠ up b then up a else decide (0 < crs a b)
def Pl (p : Pt) : Prop := Int.gcd p.1 p.2 = 1
def nz (p : Pt) : Prop := p.1 ≠ 0 ∨ p.2 ≠ 0

theorem Pl.nz {p : Pt} (h : Pl p) : nz p := by
  unfold Pl at h
  unfold Po.nz
  by_cases h1 : p.1 = 0
  · by_cases h2 : p.2 = 0
    · rw [h1, h2] at h
      simp at h
    · exact .inr h2
  · exact .inl h1
theorem crs_id (a b c : Pt) : b.2 * crs a c = a.2 * crs b c + c.2 * crs a b := by
  unfold crs
  grind
theorem up_trans {a b c : Pt} (ha : up a = true) (hb : up b = true) (hc : up c = true) (h1 : 0 < crs a b) (h2 : 0 < crs b c) : 0 < crs a c := by
  have id := crs_id a b c
  simp only [up, Bool.or_eq_true, Bool.and_eq_true, decide_eq_true_eq] at ha hb hc
  have a0 : 0 ≤ a.2 := by omega
  have c0 : 0 ≤ c.2 := by omega
  rcases hb with hb | ⟨hb, hb1⟩
  · apply Classical.byContradiction
    intro z
    have z : crs a c ≤ 0 := by omega
    have p1 : 0 ≤ a.2 * crs b c := Int.mul_nonneg a0 (by omega)
    have p2 : 0 ≤ c.2 * crs a b := Int.mul_nonneg c0 (by omega)
    have p3 : b.2 * crs a c ≤ 0 := Int.mul_nonpos_of_nonneg_of_nonpos (by omega) z
    have e1 : a.2 * crs b c = 0 := by omega
    have e2 : c.2 * crs a b = 0 := by omega
    rcases Int.mul_eq_zero.mp e1 with q | q
    · rcases Int.mul_eq_zero.mp e2 with r | r
      · have c1 : 0 < c.1 := by omega
        have : crs b c = - (b.2 * c.1) := by unfold crs; rw [r]; grind
        have : 0 < b.2 * c.1 := Int.mul_pos hb c1
        omega
      · omega
    · omega
  · have e : crs a b = - (a.2 * b.1) := by unfold crs; rw [hb]; grind
    have : 0 ≤ a.2 * b.1 := Int.mul_nonneg a0 (by omega)
    omega
def ng (p : Pt) : Pt := (-p.1, -p.2)
theorem crs_ng (a b : Pt) : crs (ng a) (ng b) = crs a b := by
  unfold crs ng
  grind
theorem up_ng {p : Pt} (h : nz p) (u : up p = false) : up (ng p) = true := by
  have u' : ¬ (up p = true) := by rw [u]; exact Bool.false_ne_true
  have e : up (ng p) = (decide (0 < -p.2) || (decide (-p.2 = 0) && decide (0 < -p.1))) := rfl
  rw [e]
  simp only [up, Bool.or_eq_true, Bool.and_eq_true, decide_eq_true_eq] at u' ⊢
  unfold nz at h
  omega
theorem bef_same {a b : Pt} (h : up a = up b) : bef a b = true ↔ 0 < crs a b := by
  unfold bef
  rw [if_neg (fun z => z h)]
  simp
theorem bef_diff {a b : Pt} (h : up a ≠ up b) : bef a b = up a := by
  unfold bef
  rw [if_pos h]
theorem bef_irr (a : Pt) : bef a a = false := by
  have : ¬ (bef a a = true) := by
    rw [bef_same rfl]
    unfold crs
    grind
  simpa using this
theorem bef_asy {a b : Pt} (h : bef a b = true) : bef b a = false := by
  by_cases e : up a = up b
  · rw [bef_same e] at h
    have : ¬ (bef b a = true) := by
      rw [bef_same e.symm]
      have : crs b a = - crs a b := by unfold crs; grind
      omega
    simpa using this
  · rw [bef_diff e] at h
    rw [bef_diff (Ne.symm e)]
    cases hb : up b with
    | false => rfl
    | true => exact absurd (h.trans hb.symm) e
theorem bef_tr {a b c : Pt} (na : nz a) (nb : nz b) (nc : nz c) (h1 : bef a b = true) (h2 : bef b c = true) : bef a c = true := by
  by_cases e1 : up a = up b
  · by_cases e2 : up b = up c
    · rw [bef_same e1] at h1
      rw [bef_same e2] at h2
      rw [bef_same (e1.trans e2)]
      cases u : up b with
      | true => exact up_trans (e1.trans u) u (e2.symm.trans u) h1 h2
      | false =>
        have := up_trans (up_ng na (e1.trans u)) (up_ng nb u) (up_ng nc (e2.symm.trans u)) (by rw [crs_ng]; exact h1) (by rw [crs_ng]; exact h2)
        rwa [crs_ng] at this
    · rw [bef_diff (fun z => e2 (e1.symm.trans z)), e1]
      rw [bef_diff e2] at h2
      exact h2
  · rw [bef_diff e1] at h1
    have hb : up b = false := by
      cases q : up b with
      | false => rfl
      | true => exact absurd (h1.trans q.symm) e1
    have hc : up c = false := by
      by_cases e2 : up b = up c
      · rw [← e2]; exact hb
      · rw [bef_diff e2, hb] at h2
        cases h2
    rw [bef_diff (fun z => by rw [h1, hc] at z; cases z)]
    exact h1
theorem pl_eq {a b : Pt} (ha : Pl a) (hb : Pl b) (h : a.1 * b.2 = a.2 * b.1) : (a.1 = b.1 ∧ a.2 = b.2) ∨ (a.1 = -b.1 ∧ a.2 = -b.2) := by
  have e1 : a.1.natAbs * b.2.natAbs = a.2.natAbs * b.1.natAbs := by
    rw [← Int.natAbs_mul, ← Int.natAbs_mul, h]
  have ca : Nat.Coprime a.1.natAbs a.2.natAbs := ha
  have cb : Nat.Coprime b.1.natAbs b.2.natAbs := hb
  have d1 : a.1.natAbs ∣ b.1.natAbs := ca.dvd_of_dvd_mul_left ⟨_, e1.symm⟩
  have d2 : b.1.natAbs ∣ a.1.natAbs := cb.dvd_of_dvd_mul_right (n := b.2.natAbs) ⟨a.2.natAbs, by rw [e1, Nat.mul_comm]⟩
  have d3 : a.2.natAbs ∣ b.2.natAbs := ca.symm.dvd_of_dvd_mul_left ⟨_, e1⟩
  have d4 : b.2.natAbs ∣ a.2.natAbs := cb.symm.dvd_of_dvd_mul_right (n := b.1.natAbs) ⟨a.1.natAbs, by rw [← e1, Nat.mul_comm]⟩
  have f1 : a.1.natAbs = b.1.natAbs := Nat.dvd_antisymm d1 d2
  have f2 : a.2.natAbs = b.2.natAbs := Nat.dvd_antisymm d3 d4
  rcases Int.natAbs_eq_natAbs_iff.mp f1 with q1 | q1
  · rcases Int.natAbs_eq_natAbs_iff.mp f2 with q2 | q2
    · exact .inl ⟨q1, q2⟩
    · rw [q1, q2] at h
      have z : b.1 * b.2 = 0 := by grind
      rcases Int.mul_eq_zero.mp z with y | y
      · right; omega
      · left; omega
  · rcases Int.natAbs_eq_natAbs_iff.mp f2 with q2 | q2
    · rw [q1, q2] at h
      have z : b.1 * b.2 = 0 := by grind
      rcases Int.mul_eq_zero.mp z with y | y
      · left; omega
      · right; omega
    · exact .inr ⟨q1, q2⟩
theorem bef_tot {a b : Pt} (ha : Pl a) (hb : Pl b) (h1 : bef a b = false) (h2 : bef b a = false) : a = b := by
  by_cases e : up a = up b
  · have n1 : ¬ 0 < crs a b := fun z => by rw [(bef_same e).mpr z] at h1; cases h1
    have n2 : ¬ 0 < crs b a := fun z => by rw [(bef_same e.symm).mpr z] at h2; cases h2
    have n3 : crs b a = - crs a b := by unfold crs; grind
    have z : crs a b = 0 := by omega
    unfold crs at z
    rcases pl_eq ha hb (by omega) with ⟨q1, q2⟩ | ⟨q1, q2⟩
    · exact Prod.ext q1 q2
    · have nb := hb.nz
      unfold nz at nb
      have : up a ≠ up b := by
        simp only [up]
        intro y
        have y : (0 < a.2 ∨ (a.2 = 0 ∧ 0 < a.1)) ↔ (0 < b.2 ∨ (b.2 = 0 ∧ 0 < b.1)) := by
          have := congrArg (· = true) y
          simpa using this
        omega
      exact absurd e this
  · rw [bef_diff e] at h1
    rw [bef_diff (Ne.symm e)] at h2
    exact absurd (h1.trans h2.symm) e
end Po

end
section
set_option autoImplicit false
namespace Po
def Sd (l : List Pt) : Prop := l.Pairwise fun a b => bef a b = true
def APl (l : List Pt) : Prop := ∀ x ∈ l, Pl x
theorem Sd.nodup {l : List Pt} (h : Sd l) : l.Nodup := by
  refine List.Pairwise.imp ?_ h
  intro a b hab e
  rw [e, bef_irr] at hab
  cases hab
theorem uniq {l m : List Pt} (hl : Sd l) (hm : Sd m) (h : ∀ x, x ∈ l ↔ x ∈ m) : l = m := by
  refine List.Perm.eq_of_pairwise (le := fun a b => bef a b = true) ?_ hl hm ?_
  · intro a b _ _ h1 h2
    rw [bef_asy h1] at h2
    cases h2
  · exact (List.perm_ext_iff_of_nodup hl.nodup hm.nodup).mpr (fun a => h a)
/-- where a new one stands -/
theorem split {t : Pt} (ht : Pl t) : ∀ {l : List Pt}, Sd l → APl l → t ∉ l → ∃ A B, l = A ++ B ∧ (∀ a ∈ A, bef a t = true) ∧ (∀ b ∈ B, bef t b = true)
  | [], _, _, _ => ⟨[], [], rfl, by simp, by simp⟩
  | x :: r, hs, hp, hn => by
    obtain ⟨h1, h2⟩ := List.pairwise_cons.mp hs
    cases e : bef x t with
    | true =>
      obtain ⟨A, B, q1, q2, q3⟩ := split ht (l := r) h2 (fun y hy => hp y (List.mem_cons_of_mem _ hy)) (fun z => hn (List.mem_cons_of_mem _ z))
      refine ⟨x :: A, B, by rw [q1]; rfl, ?_, q3⟩
      intro a ha
      rcases List.mem_cons.mp ha with z | z
      · rw [z]; exact e
      · exact q2 a z
    | false =>
      have px : Pl x := hp x List.mem_cons_self
      have tx : bef t x = true := by
        cases e2 : bef t x with
        | true => rfl
        | false => exact absurd (bef_tot px ht e e2) (fun z => hn (z ▸ List.mem_cons_self))
      refine ⟨[], x :: r, rfl, by simp, ?_⟩
      intro b hb
      rcases List.mem_cons.mp hb with z | z
      · rw [z]; exact tx
      · exact bef_tr ht.nz px.nz (hp b hb).nz tx (h1 b z)
theorem put_sd {t : Pt} {A B : List Pt} (hs : Sd (A ++ B)) (ha : ∀ a ∈ A, bef a t = true) (hb : ∀ b ∈ B, bef t b = true) : Sd (A ++ t :: B) := by
  unfold Sd at hs ⊢
  rw [List.pairwise_append] at hs ⊢
  obtain ⟨h1, h2, h3⟩ := hs
  refine ⟨h1, List.pairwise_cons.mpr ⟨hb, h2⟩, ?_⟩
  intro a ma b mb
  rcases List.mem_cons.mp mb with z | z
  · rw [z]; exact ha a ma
  · exact h3 a ma b z
/-- how many come before -/
def cnt (t : Pt) (l : List Pt) : Nat := (l.filter fun a => bef a t).length
theorem cnt_split {t : Pt} {A B : List Pt} (ha : ∀ a ∈ A, bef a t = true) (hb : ∀ b ∈ B, bef t b = true) : cnt t (A ++ B) = A.length := by
  unfold cnt
  rw [List.filter_append, List.filter_eq_self.mpr ha]
  have : B.filter (fun a => bef a t) = [] := by
    rw [List.filter_eq_nil_iff]
    intro b mb
    rw [bef_asy (hb b mb)]
    simp
  rw [this, List.append_nil]
def put (t : Pt) (l : List Pt) : List Pt := l.take (cnt t l) ++ t :: l.drop (cnt t l)
theorem put_split {t : Pt} {A B : List Pt} (ha : ∀ a ∈ A, bef a t = true) (hb : ∀ b ∈ B, bef t b = true) : put t (A ++ B) = A ++ t :: B := by
  unfold put
  rw [cnt_split ha hb]
  simp
theorem mem_put (t x : Pt) (l : List Pt) : x ∈ put t l ↔ x = t ∨ x ∈ l := by
  unfold put
  rw [List.mem_append, List.mem_cons]
  constructor
  · rintro (h | h | h)
    · exact .inr (List.mem_of_mem_take h)
    · exact .inl h
    · exact .inr (List.mem_of_mem_drop h)
  · rintro (h | h)
    · exact .inr (.inl h)
    · have : x ∈ l.take (cnt t l) ++ l.drop (cnt t l) := by rw [List.take_append_drop]; exact h
      rcases List.mem_append.mp this with q | q
      · exact .inl q
      · exact .inr (.inr q)
theorem put_ok {t : Pt} {l : List Pt} (ht : Pl t) (hs : Sd l) (hp : APl l) (hn : t ∉ l) : Sd (put t l) ∧ APl (put t l) := by
  constructor
  · obtain ⟨A, B, rfl, ha, hb⟩ := split ht hs hp hn
    rw [put_split ha hb]
    exact put_sd hs ha hb
  · intro x hx
    rcases (mem_put t x l).mp hx with h | h
    · rw [h]; exact ht
    · exact hp x h
/-- all of a list, one behind the other, each once -/
def ins (l : List Pt) (t : Pt) : List Pt := if t ∈ l then l else put t l
theorem insAll : ∀ (ts l : List Pt), APl ts → Sd l → APl l → Sd (ts.foldl ins l) ∧ APl (ts.foldl ins l) ∧ ∀ x, x ∈ ts.foldl ins l ↔ x ∈ ts ∨ x ∈ l
  | [], l, _, hs, hp => ⟨hs, hp, fun x => by simp⟩
  | t :: ts, l, ha, hs, hp => by
    have ht : Pl t := ha t List.mem_cons_self
    have key : Sd (ins l t) ∧ APl (ins l t) ∧ ∀ x, x ∈ ins l t ↔ x = t ∨ x ∈ l := by
      unfold ins
      by_cases m : t ∈ l
      · rw [if_pos m]
        refine ⟨hs, hp, fun x => ⟨.inr, ?_⟩⟩
        rintro (z | z)
        · rw [z]; exact m
        · exact z
      · rw [if_neg m]
        exact ⟨(put_ok ht hs hp m).1, (put_ok ht hs hp m).2, fun x => mem_put t x l⟩
    obtain ⟨q1, q2, q3⟩ := insAll ts (ins l t) (fun x hx => ha x (List.mem_cons_of_mem _ hx)) key.1 key.2.1
    refine ⟨q1, q2, fun x => ?_⟩
    show x ∈ ts.foldl ins (ins l t) ↔ _
    rw [q3 x, key.2.2 x, List.mem_cons]
    grind
/-- the sorted list -/
def srt (ts : List Pt) : List Pt := ts.foldl ins []
theorem srt_ok {ts : List Pt} (h : APl ts) : Sd (srt ts) ∧ APl (srt ts) ∧ ∀ x, x ∈ srt ts ↔ x ∈ ts := by
  obtain ⟨h1, h2, h3⟩ := insAll ts [] h List.Pairwise.nil (fun x hx => by cases hx)
  refine ⟨h1, h2, fun x => ?_⟩
  show x ∈ ts.foldl ins [] ↔ _
  rw [h3 x]
  simp
theorem srt_of {ts l : List Pt} (h : APl ts) (hs : Sd l) (hm : ∀ x, x ∈ l ↔ x ∈ ts) : srt ts = l := by
  obtain ⟨h1, h2, h3⟩ := srt_ok h
  exact uniq h1 hs fun x => (h3 x).trans (hm x).symm
theorem srt_congr {ts us : List Pt} (h : APl ts) (hm : ∀ x, x ∈ us ↔ x ∈ ts) : srt us = srt ts := by
  have hu : APl us := fun x hx => h x ((hm x).mp hx)
  exact (srt_of h (srt_ok hu).1 fun x => ((srt_ok hu).2.2 x).trans (hm x)).symm
theorem srt_self {l : List Pt} (hs : Sd l) (hp : APl l) : srt l = l := srt_of hp hs fun _ => Iff.rfl
theorem insAll_len : ∀ (ts l : List Pt), (ts.foldl ins l).length ≤ ts.length + l.length
  | [], l => by simp
  | t :: ts, l => by
    have := insAll_len ts (ins l t)
    have q : (ins l t).length ≤ l.length + 1 := by
      unfold ins put
      split
      · omega
      · simp
        omega
    show (ts.foldl ins (ins l t)).length ≤ _
    simp
    omega
theorem srt_len (ts : List Pt) : (srt ts).length ≤ ts.length := by
  have := insAll_len ts []
  unfold srt
  simpa using this

def tl (p : Pt) : Pt := (-p.2, p.1)
theorem tl_Pl {p : Pt} (h : Pl p) : Pl (tl p) := by
  unfold Pl at *
  show Int.gcd (-p.2) p.1 = 1
  rw [Int.neg_gcd, Int.gcd_comm]
  exact h
theorem tl_inj {p q : Pt} (h : tl p = tl q) : p = q := by
  unfold tl at h
  obtain ⟨h1, h2⟩ := Prod.mk.inj h
  exact Prod.ext h2 (by omega)
theorem crs_tl (a b : Pt) : crs (tl a) (tl b) = crs a b := by
  unfold crs tl
  grind
/-- the last quarter -/
def lq (p : Pt) : Bool := decide (p.2 < 0) && decide (0 ≤ p.1)
theorem up_iff {p : Pt} : up p = true ↔ 0 < p.2 ∨ (p.2 = 0 ∧ 0 < p.1) := by
  simp [up]
theorem up_f {p : Pt} : up p = false ↔ ¬ (0 < p.2 ∨ (p.2 = 0 ∧ 0 < p.1)) := by
  rw [← up_iff]
  simp
theorem lq_iff {p : Pt} : lq p = true ↔ p.2 < 0 ∧ 0 ≤ p.1 := by
  simp [lq]
theorem lq_f {p : Pt} : lq p = false ↔ ¬ (p.2 < 0 ∧ 0 ≤ p.1) := by
  rw [← lq_iff]
  simp
theorem up_tl {p : Pt} : up (tl p) = true ↔ 0 < p.1 ∨ (p.1 = 0 ∧ p.2 < 0) := by
  rw [up_iff]
  show 0 < p.1 ∨ (p.1 = 0 ∧ 0 < -p.2) ↔ _
  omega
theorem bool_ne {a b : Bool} (h : ¬ (a = true ↔ b = true)) : a ≠ b := fun z => h (by rw [z])
theorem bool_eq {a b : Bool} (h : a = true ↔ b = true) : a = b := by
  cases a <;> cases b <;> simp_all
/-- crossed numbers of places whose signs are known -/
theorem crs_pos {a b : Pt} (h : 0 < a.1 * b.2 - a.2 * b.1) : 0 < crs a b := h
theorem tl_same {a b : Pt} (na : nz a) (nb : nz b) (h : lq a = lq b) (hb : bef a b = true) : bef (tl a) (tl b) = true := by
  by_cases e : up (tl a) = up (tl b)
  · rw [bef_same e, crs_tl]
    by_cases e1 : up a = up b
    · exact (bef_same e1).mp hb
    · rw [bef_diff e1] at hb
      have ub : ¬ (up b = true) := fun z => e1 (hb.trans z.symm)
      rw [up_iff] at hb ub
      have h' : (a.2 < 0 ∧ 0 ≤ a.1) ↔ (b.2 < 0 ∧ 0 ≤ b.1) := by rw [← lq_iff, ← lq_iff, h]
      have e' : (0 < a.1 ∨ (a.1 = 0 ∧ a.2 < 0)) ↔ (0 < b.1 ∨ (b.1 = 0 ∧ b.2 < 0)) := by rw [← up_tl, ← up_tl, e]
      unfold nz at na nb
      -- a is above, b below and not in the last quarter: b.1 < 0, so a.1 ≤ 0
      have b1 : b.1 < 0 := by omega
      have b2 : b.2 ≤ 0 := by omega
      have a1 : a.1 ≤ 0 := by omega
      have a2 : 0 < a.2 := by omega
      have p1 : 0 ≤ a.1 * b.2 := Int.mul_nonneg_of_nonpos_of_nonpos a1 b2
      have p2 : a.2 * b.1 < 0 := Int.mul_neg_of_pos_of_neg a2 b1
      unfold crs
      omega
  · rw [bef_diff e]
    cases q : up (tl a) with
    | true => rfl
    | false =>
      exfalso
      have hb2 : up (tl b) = true := by
        cases z : up (tl b) with
        | true => rfl
        | false => exact absurd (q.trans z.symm) e
      have q' : ¬ (0 < a.1 ∨ (a.1 = 0 ∧ a.2 < 0)) := by rw [← up_tl, q]; simp
      rw [up_tl] at hb2
      have h' : (a.2 < 0 ∧ 0 ≤ a.1) ↔ (b.2 < 0 ∧ 0 ≤ b.1) := by rw [← lq_iff, ← lq_iff, h]
      unfold nz at na nb
      by_cases e1 : up a = up b
      · have e1' : (0 < a.2 ∨ (a.2 = 0 ∧ 0 < a.1)) ↔ (0 < b.2 ∨ (b.2 = 0 ∧ 0 < b.1)) := by rw [← up_iff, ← up_iff, e1]
        have hb := (bef_same e1).mp hb
        unfold crs at hb
        -- a to the left (a.1 ≤ 0), b to the right; both above, or both below
        rcases Int.lt_or_le 0 a.2 with p | p
        · have b2 : 0 ≤ b.2 := by omega
          have b1 : 0 ≤ b.1 := by omega
          have z1 : a.1 * b.2 ≤ 0 := Int.mul_nonpos_of_nonpos_of_nonneg (by omega) b2
          have z2 : 0 ≤ a.2 * b.1 := Int.mul_nonneg (by omega) b1
          omega
        · omega
      · have e1' : ¬ ((0 < a.2 ∨ (a.2 = 0 ∧ 0 < a.1)) ↔ (0 < b.2 ∨ (b.2 = 0 ∧ 0 < b.1))) := by
          rw [← up_iff, ← up_iff]
          intro z
          exact e1 (bool_eq z)
        rw [bef_diff e1, up_iff] at hb
        omega
theorem tl_cross {a b : Pt} (na : nz a) (nb : nz b) (ha : lq a = false) (hb : lq b = true) : bef (tl b) (tl a) = true := by
  rw [lq_iff] at hb
  have ha' : ¬ (a.2 < 0 ∧ 0 ≤ a.1) := by rw [← lq_iff, ha]; simp
  unfold nz at na nb
  have ub : up (tl b) = true := by rw [up_tl]; omega
  by_cases e : up (tl b) = up (tl a)
  · rw [bef_same e, crs_tl]
    have ua : up (tl a) = true := e.symm.trans ub
    rw [up_tl] at ua
    unfold crs
    -- a.1 > 0 and a.2 ≥ 0
    have a1 : 0 < a.1 := by omega
    have a2 : 0 ≤ a.2 := by omega
    have z1 : 0 ≤ b.1 * a.2 := Int.mul_nonneg (by omega) a2
    have z2 : b.2 * a.1 < 0 := Int.mul_neg_of_neg_of_pos (by omega) a1
    omega
  · rw [bef_diff e]
    exact ub
theorem lq_last {a b : Pt} (na : nz a) (nb : nz b) (ha : lq a = true) (h : bef a b = true) : lq b = true := by
  rw [lq_iff] at ha ⊢
  unfold nz at na nb
  by_cases e : up a = up b
  · have e' : (0 < a.2 ∨ (a.2 = 0 ∧ 0 < a.1)) ↔ (0 < b.2 ∨ (b.2 = 0 ∧ 0 < b.1)) := by rw [← up_iff, ← up_iff, e]
    have h := (bef_same e).mp h
    unfold crs at h
    have b2 : b.2 ≤ 0 := by omega
    by_cases b1 : 0 ≤ b.1
    · refine ⟨?_, b1⟩
      omega
    · exfalso
      have z1 : a.1 * b.2 ≤ 0 := Int.mul_nonpos_of_nonneg_of_nonpos ha.2 b2
      have z2 : 0 < a.2 * b.1 := Int.mul_pos_of_neg_of_neg ha.1 (by omega)
      omega
  · rw [bef_diff e, up_iff] at h
    omega
/-- turned by a quarter, the last quarter comes ahead -/
theorem turned : ∀ {l : List Pt}, Sd l → APl l → ∃ A B, l = A ++ B ∧ Sd (B.map tl ++ A.map tl) := by
  intro l hs hp
  have key : ∀ {l : List Pt}, Sd l → APl l → ∃ A B, l = A ++ B ∧ (∀ a ∈ A, lq a = false) ∧ (∀ b ∈ B, lq b = true) := by
    intro l
    induction l with
    | nil => exact fun _ _ => ⟨[], [], rfl, by simp, by simp⟩
    | cons x r ih =>
      intro hs hp
      obtain ⟨h1, h2⟩ := List.pairwise_cons.mp hs
      cases e : lq x with
      | false =>
        obtain ⟨A, B, q1, q2, q3⟩ := ih h2 fun y hy => hp y (List.mem_cons_of_mem _ hy)
        refine ⟨x :: A, B, by rw [q1]; rfl, ?_, q3⟩
        intro a ha
        rcases List.mem_cons.mp ha with z | z
        · rw [z]; exact e
        · exact q2 a z
      | true =>
        refine ⟨[], x :: r, rfl, by simp, ?_⟩
        intro b hb
        rcases List.mem_cons.mp hb with z | z
        · rw [z]; exact e
        · exact lq_last (hp x List.mem_cons_self).nz (hp b hb).nz e (h1 b z)
  obtain ⟨A, B, rfl, ha, hb⟩ := key hs hp
  refine ⟨A, B, rfl, ?_⟩
  unfold Sd at hs ⊢
  rw [List.pairwise_append] at hs ⊢
  obtain ⟨h1, h2, h3⟩ := hs
  have nzA : ∀ a ∈ A, nz a := fun a h => (hp a (List.mem_append_left _ h)).nz
  have nzB : ∀ a ∈ B, nz a := fun a h => (hp a (List.mem_append_right _ h)).nz
  refine ⟨?_, ?_, ?_⟩
  · rw [List.pairwise_map]
    exact h2.imp_of_mem fun {a b} ma mb h => tl_same (nzB a ma) (nzB b mb) ((hb a ma).trans (hb b mb).symm) h
  · rw [List.pairwise_map]
    exact h1.imp_of_mem fun {a b} ma mb h => tl_same (nzA a ma) (nzA b mb) ((ha a ma).trans (ha b mb).symm) h
  · intro x mx y my
    obtain ⟨b, mb, rfl⟩ := List.mem_map.mp mx
    obtain ⟨a, ma, rfl⟩ := List.mem_map.mp my
    exact tl_cross (nzA a ma) (nzB b mb) (ha a ma) (hb b mb)
/-- so what is put in order of the turned ones is the turned ones, turned round -/
theorem srt_tl {l : List Pt} (hs : Sd l) (hp : APl l) : ∃ A B, l = A ++ B ∧ srt (l.map tl) = B.map tl ++ A.map tl := by
  obtain ⟨A, B, rfl, h⟩ := turned hs hp
  refine ⟨A, B, rfl, srt_of ?_ h ?_⟩
  · intro x hx
    obtain ⟨a, ma, rfl⟩ := List.mem_map.mp hx
    exact tl_Pl (hp a ma)
  · intro x
    rw [List.map_append, List.mem_append, List.mem_append]
    exact Or.comm
end Po

end
section
set_option autoImplicit false
namespace Po
/-- Euclid's steps, so many at most -/
def eu : Nat → Int → Int → Int
  | 0, a, _ => a
  | n + 1, a, b => if 0 < b then eu n b (a.fmod b) else a
theorem gcd_em (a b : Int) : Int.gcd b (a % b) = Int.gcd b a := by
  have e := Int.emod_add_mul_ediv a b
  conv => rhs; rw [← e]
  rw [Int.gcd_add_mul_left_right]
theorem eu_ok : ∀ (n : Nat) (a b : Int), 0 ≤ a → 0 ≤ b → b.toNat < n → eu n a b = (Int.gcd a b : Int)
  | 0, a, b, _, _, h => by omega
  | n + 1, a, b, ha, hb, h => by
    unfold eu
    split
    · rename_i p
      have e : a.fmod b = a % b := Int.fmod_eq_emod_of_nonneg a (by omega)
      have r0 : 0 ≤ a % b := Int.emod_nonneg a (by omega)
      have r1 : a % b < b := Int.emod_lt_of_pos a p
      rw [e, eu_ok n b (a % b) (by omega) r0 (by omega)]
      congr 1
      rw [Int.gcd_comm a b]
      exact gcd_em a b
    · have : b = 0 := by omega
      subst this
      rw [Int.gcd_zero_right]
      omega
def g (p : Pt) : Int := (Int.gcd p.1 p.2 : Int)
def pl (p : Pt) : Pt := (p.1.fdiv (g p), p.2.fdiv (g p))
theorem g_pos {p : Pt} (h : nz p) : 0 < g p := by
  unfold g
  have : 0 < Int.gcd p.1 p.2 := by
    apply Nat.pos_of_ne_zero
    intro z
    obtain ⟨h1, h2⟩ := Int.gcd_eq_zero_iff.mp z
    unfold nz at h
    omega
  omega
theorem g_eq {p : Pt} (h : nz p) : p.1 = g p * (pl p).1 ∧ p.2 = g p * (pl p).2 := by
  have gp := g_pos h
  have d1 : g p ∣ p.1 := Int.gcd_dvd_left ..
  have d2 : g p ∣ p.2 := Int.gcd_dvd_right ..
  unfold pl
  constructor
  · show p.1 = g p * p.1.fdiv (g p)
    rw [Int.fdiv_eq_ediv_of_nonneg _ (by omega)]
    exact (Int.mul_ediv_cancel' d1).symm
  · show p.2 = g p * p.2.fdiv (g p)
    rw [Int.fdiv_eq_ediv_of_nonneg _ (by omega)]
    exact (Int.mul_ediv_cancel' d2).symm
theorem pl_Pl {p : Pt} (h : nz p) : Pl (pl p) := by
  have gp := g_pos h
  obtain ⟨e1, e2⟩ := g_eq h
  have q : (Int.gcd p.1 p.2) = (g p).natAbs * Int.gcd (pl p).1 (pl p).2 := by
    rw [← Int.gcd_mul_left, ← e1, ← e2]
  have q2 : (g p).natAbs = Int.gcd p.1 p.2 := by
    unfold g
    simp
  rw [q2] at q
  have pos : 0 < Int.gcd p.1 p.2 := by
    unfold g at gp
    omega
  unfold Pl
  have : Int.gcd p.1 p.2 * 1 = Int.gcd p.1 p.2 * Int.gcd (pl p).1 (pl p).2 := by omega
  exact (Nat.eq_of_mul_eq_mul_left pos this).symm
theorem pl_self {p : Pt} (h : Pl p) : pl p = p := by
  unfold pl g
  have e : (Int.gcd p.1 p.2 : Int) = 1 := by
    have h : Int.gcd p.1 p.2 = 1 := h
    rw [h] <;> rfl
  rw [e]
  simp
theorem pl_mul {p : Pt} (h : nz p) {k : Int} (hk : 0 < k) : pl (k * p.1, k * p.2) = pl p := by
  have gp := g_pos h
  obtain ⟨e1, e2⟩ := g_eq h
  have q : g (k * p.1, k * p.2) = k * g p := by
    unfold g
    show (Int.gcd (k * p.1) (k * p.2) : Int) = _
    rw [Int.gcd_mul_left]
    have : (k.natAbs : Int) = k := by omega
    rw [Int.natCast_mul, this]
  unfold pl
  rw [q]
  have kg : 0 < k * g p := Int.mul_pos hk gp
  show ((k * p.1).fdiv (k * g p), (k * p.2).fdiv (k * g p)) = _
  rw [Int.fdiv_eq_ediv_of_nonneg _ (by omega), Int.fdiv_eq_ediv_of_nonneg _ (by omega), Int.fdiv_eq_ediv_of_nonneg _ (by omega), Int.fdiv_eq_ediv_of_nonneg _ (by omega), Int.mul_ediv_mul_of_pos _ _ hk, Int.mul_ediv_mul_of_pos _ _ hk]
/-- how great a plain one is -/
theorem pl_le {p : Pt} (h : nz p) : (pl p).1.natAbs ≤ p.1.natAbs ∧ (pl p).2.natAbs ≤ p.2.natAbs := by
  have gp := g_pos h
  obtain ⟨e1, e2⟩ := g_eq h
  have n : 1 ≤ (g p).natAbs := by omega
  constructor
  · have := congrArg Int.natAbs e1
    rw [Int.natAbs_mul] at this
    rw [this]
    exact Nat.le_mul_of_pos_left _ n
  · have := congrArg Int.natAbs e2
    rw [Int.natAbs_mul] at this
    rw [this]
    exact Nat.le_mul_of_pos_left _ n
theorem g_le {p : Pt} (m : Nat) (h1 : p.1.natAbs ≤ m) (h2 : p.2.natAbs ≤ m) : g p ≤ m := by
  unfold g
  by_cases h : p.1 = 0
  · rw [h, Int.gcd_zero_left]
    omega
  · have := Int.gcd_le_natAbs_left p.2 h
    omega
end Po

end
section
set_option linter.all false
set_option autoImplicit false
namespace Ci
open PySem Po

theorem eqv_pair (a b : Pt) : PyData.eqv (pairD a) (pairD b) = decide (a = b) := by
  obtain ⟨a1, a2⟩ := a
  obtain ⟨b1, b2⟩ := b
  unfold pairD
  simp only [PyData.eqv, PyData.eqvAll, Bool.and_true, Prod.mk.injEq]
  rw [Bool.eq_iff_iff]
  simp
theorem shaped_pair (a : Pt) : SeqAt.shaped (pairD a) = true := by
  unfold pairD
  simp [SeqAt.shaped, PyData.canLay0, PyData.canLayAll0, PyData.depth, PyData.depthAll]
theorem canLay_pairs : ∀ l : List Pt, PyData.canLayAll0 (l.map pairD) = true
  | [] => rfl
  | a :: r => by
    have h := canLay_pairs r
    unfold pairD at h ⊢
    simp only [List.map_cons, PyData.canLayAll0, PyData.canLay0, Bool.true_and, Bool.and_true]
    exact h
theorem depth_pairs : ∀ l : List Pt, PyData.depthAll (l.map pairD) ≤ 1
  | [] => by simp [PyData.depthAll]
  | a :: r => by
    have h := depth_pairs r
    unfold pairD at h ⊢
    simp only [List.map_cons, PyData.depthAll, PyData.depth] at h ⊢
    omega
theorem shaped_pairs (l : List Pt) : SeqAt.shaped (.list (l.map pairD)) = true := by
  have h1 := canLay_pairs l
  have h2 := depth_pairs l
  show (PyData.canLayAll0 (l.map pairD) && decide (PyData.depthAll (l.map pairD) + 1 ≤ 64)) = true
  rw [h1, Bool.true_and]
  exact decide_eq_true (by omega)
theorem shaped_pairsT (l : List Pt) : SeqAt.shaped (.tuple (l.map pairD)) = true := by
  have h1 := canLay_pairs l
  have h2 := depth_pairs l
  show (PyData.canLayAll0 (l.map pairD) && decide (PyData.depthAll (l.map pairD) + 1 ≤ 64)) = true
  rw [h1, Bool.true_and]
  exact decide_eq_true (by omega)
theorem eqvAll_pairs : ∀ l m : List Pt, PyData.eqvAll (l.map pairD) (m.map pairD) = decide (l = m)
  | [], [] => rfl
  | [], b :: m => rfl
  | a :: l, [] => rfl
  | a :: l, b :: m => by
    have e : PyData.eqvAll ((a :: l).map pairD) ((b :: m).map pairD) = (PyData.eqv (pairD a) (pairD b) && PyData.eqvAll (l.map pairD) (m.map pairD)) := by
      simp only [List.map_cons, PyData.eqvAll]
    rw [e, eqv_pair, eqvAll_pairs l m, Bool.eq_iff_iff]
    simp
theorem eqD_pair (a b : Pt) : eqD (pairD a) (pairD b) = some (decide (a = b)) := by
  unfold eqD
  rw [shaped_pair, shaped_pair, eqv_pair]
  rfl
theorem eqD_pairs (l m : List Pt) : eqD (.list (l.map pairD)) (.list (m.map pairD)) = some (decide (l = m)) := by
  unfold eqD
  rw [shaped_pairs, shaped_pairs]
  simp only [PyData.eqv, eqvAll_pairs]
  rfl
theorem eqD_pairsT (l m : List Pt) : eqD (.tuple (l.map pairD)) (.tuple (m.map pairD)) = some (decide (l = m)) := by
  unfold eqD
  rw [shaped_pairsT, shaped_pairsT]
  simp only [PyData.eqv, eqvAll_pairs]
  rfl
theorem any_pairs (t : Pt) : ∀ l : List Pt, ((l.map pairD).any fun z => PyData.eqv z (pairD t)) = decide (t ∈ l)
  | [] => rfl
  | a :: r => by
    rw [List.map_cons, List.any_cons, any_pairs t r, eqv_pair, Bool.eq_iff_iff]
    simp only [Bool.or_eq_true, decide_eq_true_eq, List.mem_cons]
    exact or_congr_left ⟨Eq.symm, Eq.symm⟩
theorem inD_pairs (t : Pt) (l : List Pt) : inD (pairD t) (.list (l.map pairD)) = some (decide (t ∈ l)) := by
  unfold inD listOf
  simp only [shaped_pair, shaped_pairs, any_pairs]
  rfl
theorem mapM_pairs : ∀ l : List Pt, (l.map pairD).mapM pairOf = some l
  | [] => rfl
  | a :: r => by
    rw [List.map_cons, List.mapM_cons, mapM_pairs r]
    rfl
theorem any_rows (t : List Pt) : ∀ l : List (List Pt), ((l.map fun r => PyData.tuple (r.map pairD)).any fun z => PyData.eqv z (.tuple (t.map pairD))) = decide (t ∈ l)
  | [] => rfl
  | a :: r => by
    rw [List.map_cons, List.any_cons, any_rows t r]
    simp only [PyData.eqv, eqvAll_pairs]
    rw [Bool.eq_iff_iff]
    simp only [Bool.or_eq_true, decide_eq_true_eq, List.mem_cons]
    exact or_congr_left ⟨Eq.symm, Eq.symm⟩
theorem shaped_rows (l : List (List Pt)) : SeqAt.shaped (.list (l.map fun r => PyData.tuple (r.map pairD))) = true := by
  have h1 : ∀ l : List (List Pt), PyData.canLayAll0 (l.map fun r => PyData.tuple (r.map pairD)) = true := by
    intro l
    induction l with
    | nil => rfl
    | cons a r ih =>
      simp only [List.map_cons, PyData.canLayAll0, PyData.canLay0, canLay_pairs, Bool.true_and]
      exact ih
  have h2 : ∀ l : List (List Pt), PyData.depthAll (l.map fun r => PyData.tuple (r.map pairD)) ≤ 2 := by
    intro l
    induction l with
    | nil => simp [PyData.depthAll]
    | cons a r ih =>
      have h := depth_pairs a
      simp only [List.map_cons, PyData.depthAll, PyData.depth]
      omega
  have h2 := h2 l
  have h1 := h1 l
  show (PyData.canLayAll0 _ && decide (PyData.depthAll _ + 1 ≤ 64)) = true
  rw [h1, Bool.true_and]
  exact decide_eq_true (by omega)
theorem inD_rows (t : List Pt) (l : List (List Pt)) : inD (.tuple (t.map pairD)) (.list (l.map fun r => PyData.tuple (r.map pairD))) = some (decide (t ∈ l)) := by
  unfold inD listOf
  simp only [shaped_pairsT, shaped_rows, any_rows]
  rfl

mutual
/-- no texts, no dicts, ints that are not too long -/
def bare : PyData → Bool
  | .none => true
  | .bool _ => true
  | .int i => decide (i.natAbs.log2 < 1920)
  | .str x => (x.cps.toList.all fun c => decide (c < 16 ^ 8)) && ((PyData.str x).shown.cps.toList.all fun c => decide (c < 200))
  | .list xs => bares xs
  | .tuple xs => bares xs
  | .dict _ => false
def bares : List PyData → Bool
  | [] => true
  | x :: xs => bare x && bares xs
end
mutual
theorem litD_bare : ∀ d : PyData, bare d = true → litD d = true
  | .none, _ => rfl
  | .bool _, _ => rfl
  | .int i, h => h
  | .str x, h => (Bool.and_eq_true_iff.mp (show ((x.cps.toList.all fun c => decide (c < 16 ^ 8)) && ((PyData.str x).shown.cps.toList.all fun c => decide (c < 200))) = true from h)).1
  | .list xs, h => litDs_bare xs h
  | .tuple xs, h => litDs_bare xs h
  | .dict _, h => by cases h
theorem litDs_bare : ∀ ds : List PyData, bares ds = true → litDs ds = true
  | [], _ => rfl
  | x :: xs, h => by
    have h : (bare x && bares xs) = true := h
    obtain ⟨h1, h2⟩ := Bool.and_eq_true_iff.mp h
    show (litD x && litDs xs) = true
    rw [litD_bare x h1, litDs_bare xs h2] <;> rfl
end
open PyProof.Rows in
mutual
theorem free_bare {k : Nat} (hk : 200 ≤ k) : ∀ d : PyData, bare d = true → k ∉ d.shown.cps.toList
  | .none, _ => by
    rw [PyData.shown_none]
    have e : (("None" : String) : Str).cps.toList = [78, 111, 110, 101] := by decide
    rw [e]
    simp
    omega
  | .bool b, _ => by
    rw [PyData.shown_bool]
    cases b
    · show k ∉ (Str.ofString "False").cps.toList
      have e : (Str.ofString "False").cps.toList = [70, 97, 108, 115, 101] := by decide
      rw [e]
      simp
      omega
    · show k ∉ (Str.ofString "True").cps.toList
      have e : (Str.ofString "True").cps.toList = [84, 114, 117, 101] := by decide
      rw [e]
      simp
      omega
  | .int i, _ => shown_int_free' (by omega) i
  | .str x, h => fun m => by
    have h := (Bool.and_eq_true_iff.mp (show ((x.cps.toList.all fun c => decide (c < 16 ^ 8)) && ((PyData.str x).shown.cps.toList.all fun c => decide (c < 200))) = true from h)).2
    have := of_decide_eq_true (List.all_eq_true.mp h k m)
    omega
  | .list xs, h => by
    rw [PyData.shown_list, mem_cps_append, mem_cps_append, signs_lbrack, signs_rbrack, mem_join, signs_sep]
    rintro ((hm | (⟨t, ht, hc⟩ | ⟨_, hm⟩)) | hm)
    · simp at hm; omega
    · exact free_bares hk xs h t ht hc
    · simp at hm; omega
    · simp at hm; omega
  | .tuple xs, h => by
    rw [PyData.shown_tuple, mem_cps_append, mem_cps_append, signs_lparen, mem_join, signs_tuple_end, signs_sep]
    rintro ((hm | (⟨t, ht, hc⟩ | ⟨_, hm⟩)) | hm)
    · simp at hm; omega
    · exact free_bares hk xs h t ht hc
    · simp at hm; omega
    · split at hm <;> (simp at hm; omega)
  | .dict _, h => by cases h
theorem free_bares {k : Nat} (hk : 200 ≤ k) : ∀ ds : List PyData, bares ds = true → ∀ t ∈ PyData.shownAll ds, k ∉ t.cps.toList
  | [], _, t, ht => by rw [PyData.shownAll_nil] at ht; exact absurd ht (by simp)
  | x :: xs, h, t, ht => by
    have h : (bare x && bares xs) = true := h
    obtain ⟨h1, h2⟩ := Bool.and_eq_true_iff.mp h
    rw [PyData.shownAll_cons, List.mem_cons] at ht
    rcases ht with e | ht
    · rw [e]
      exact free_bare hk x h1
    · exact free_bares hk xs h2 t ht
end
theorem strOk_bare {d : PyData} (h : bare d = true) : PyData.strOk d.shown = true := by
  unfold PyData.strOk
  rw [Array.all_eq_true_iff_forall_mem]
  intro x hx
  have hx : x ∈ d.shown.cps.toList := by simpa using hx
  rw [decide_eq_true_eq]
  apply Classical.byContradiction
  intro z
  exact free_bare (k := x) (by omega) d h hx
theorem repr_same {d : PyData} (h : bare d = true) (hs : isSeqD d = true) (hb : d.bulk ≤ 8000) (hd : d.depth ≤ 60) : reprD d = some (.str d.shown) ∧ eqD (.str d.shown) (.str d.shown) = some true := by
  constructor
  · unfold reprD
    rw [if_pos ⟨hs, litD_bare d h, hb, hd⟩]
  · unfold eqD
    have e : SeqAt.shaped (.str d.shown) = true := by
      show (PyData.strOk d.shown && decide (PyData.depth (.str d.shown) ≤ 64)) = true
      rw [strOk_bare h, Bool.true_and]
      exact decide_eq_true (by simp [PyData.depth])
    rw [e]
    simp [PyData.eqv]
end Ci

end
section
set_option autoImplicit false
set_option maxRecDepth 10000
namespace K3
open PySem Ci
def gcK : Cls := { sub := fun c k => if c < 7 ∧ k < 7 then some (c == k || k == 6) else none, hasF := fun c => decide (c < 5) }
def f_is_integer : Fn := ⟨1, 1, [.ret (.and_ (.isa .int (.var 0)) (.not_ (.isa .bool (.var 0))))]⟩
def f_is_number : Fn := ⟨3, 3, [.ret (.and_ (.call 0 [(.var 0)]) (.chain .le .le (.var 1) (.var 0) (.var 2)))]⟩
def f_are_two : Fn := ⟨1, 1, [.ret (.and_ (.isa .tup (.var 0)) (.cmp .eq (.p1 .len (.var 0)) (.cst (.int 2))))]⟩
def f_is_pair : Fn := ⟨2, 2, [.ret (.and_ (.call 2 [(.var 0)]) (.and_ (.call 1 [(.idx (.var 0) (.cst (.int 0))), (.neg (.var 1)), (.var 1)]) (.call 1 [(.idx (.var 0) (.cst (.int 1))), (.neg (.var 1)), (.var 1)])))]⟩
def f_is_tuple_of : Fn := ⟨3, 3, [.ret (.and_ (.isa .tup (.var 0)) (.chain .le .le (.var 1) (.p1 .len (.var 0)) (.var 2)))]⟩
def f_is_place : Fn := ⟨1, 1, [.ret (.call 3 [(.var 0), (.cst (.int 1000000000))])]⟩
def f_need_place : Fn := ⟨1, 1, [.ite (.not_ (.call 5 [(.var 0)])) [.raise 0 (some (.var 0))] [], .ret (.var 0)]⟩
def f_is_direction : Fn := ⟨1, 1, [.ret (.and_ (.call 3 [(.var 0), (.cst (.int 1000000))]) (.cmp .ne (.var 0) (.tup [(.cst (.int 0)), (.cst (.int 0))])))]⟩
def f_need_direction : Fn := ⟨1, 1, [.ite (.not_ (.call 7 [(.var 0)])) [.raise 2 (some (.var 0))] [], .ret (.var 0)]⟩
def f_inner : Fn := ⟨2, 2, [.ret (.bin .add (.bin .mul (.idx (.var 0) (.cst (.int 0))) (.idx (.var 1) (.cst (.int 0)))) (.bin .mul (.idx (.var 0) (.cst (.int 1))) (.idx (.var 1) (.cst (.int 1)))))]⟩
def f_dot : Fn := ⟨2, 2, [.ex (.call 8 [(.var 0)]), .ex (.call 6 [(.var 1)]), .ret (.call 9 [(.var 0), (.var 1)])]⟩
def f_made_plain : Fn := ⟨1, 2, [.set 1 (.p2 .gcd (.idx (.var 0) (.cst (.int 0))) (.idx (.var 0) (.cst (.int 1)))), .ret (.tup [(.bin .fdiv (.idx (.var 0) (.cst (.int 0))) (.var 1)), (.bin .fdiv (.idx (.var 0) (.cst (.int 1))) (.var 1))])]⟩
def f_least_direction : Fn := ⟨1, 1, [.ex (.call 8 [(.var 0)]), .ret (.call 11 [(.var 0)])]⟩
def f_turned_left : Fn := ⟨1, 1, [.ex (.call 8 [(.var 0)]), .ret (.tup [(.neg (.idx (.var 0) (.cst (.int 1)))), (.idx (.var 0) (.cst (.int 0)))])]⟩
def f_is_first_half : Fn := ⟨1, 1, [.ret (.or_ (.cmp .gt (.idx (.var 0) (.cst (.int 1))) (.cst (.int 0))) (.and_ (.cmp .eq (.idx (.var 0) (.cst (.int 1))) (.cst (.int 0))) (.cmp .gt (.idx (.var 0) (.cst (.int 0))) (.cst (.int 0)))))]⟩
def f_crossed : Fn := ⟨2, 2, [.ret (.bin .sub (.bin .mul (.idx (.var 0) (.cst (.int 0))) (.idx (.var 1) (.cst (.int 1)))) (.bin .mul (.idx (.var 0) (.cst (.int 1))) (.idx (.var 1) (.cst (.int 0)))))]⟩
def f_comes_before : Fn := ⟨2, 2, [.ite (.cmp .ne (.call 14 [(.var 0)]) (.call 14 [(.var 1)])) [.ret (.call 14 [(.var 0)])] [], .ret (.cmp .gt (.call 15 [(.var 0), (.var 1)]) (.cst (.int 0)))]⟩
def f_how_many_before : Fn := ⟨2, 5, [.par 2 3 (.cst (.int 0)) (.p1 .len (.var 1)), .while_ (.cmp .lt (.var 2) (.var 3)) [.set 4 (.bin .fdiv (.bin .add (.var 2) (.var 3)) (.cst (.int 2))), .ite (.call 16 [(.idx (.var 1) (.var 4)), (.var 0)]) [.set 2 (.bin .add (.var 4) (.cst (.int 1)))] [.set 3 (.var 4)]], .ret (.var 2)]⟩
def f_put_in_order : Fn := ⟨1, 3, [.set 1 (.lst true []), .for_ (.one 2) (.sortSet (.var 0)) [.ins (.var 1) (.call 17 [(.var 2), (.var 1)]) (.var 2)], .frz 1, .ret (.var 1)]⟩
def f_in_order : Fn := ⟨1, 3, [.ite (.not_ (.call 4 [(.var 0), (.cst (.int 0)), (.cst (.int 60))])) [.raise 3 (some (.var 0))] [], .for_ (.one 1) (.var 0) [.ex (.call 8 [(.var 1)])], .ret (.p1 .tuple_ (.call 18 [(.comp false [2, 1] (.one 1) (.var 0) none (.call 11 [(.var 1)]))]))]⟩
def f__law_mixed : Fn := ⟨2, 2, [.set 0 (.bin .mod (.p1 .int_ (.var 0)) (.cst (.int 2147483647))), .ret (.bin .mod (.bin .mul (.bin .mod (.bin .add (.bin .add (.bin .mul (.var 0) (.bin .add (.cst (.int 48271)) (.bin .mul (.bin .mul (.cst (.int 2)) (.var 1)) (.var 1)))) (.bin .mul (.cst (.int 69621)) (.var 1))) (.cst (.int 11))) (.cst (.int 2147483647))) (.cst (.int 69621))) (.cst (.int 2147483629)))]⟩
def f__law_begin : Fn := ⟨1, 4, [.set 1 (.ife (.cmp .ne (.var 0) (.lst false [])) (.p1 .list_ (.var 0)) (.lst false [(.cst (.int 0))])), .ret (.dict ["cells", "lefts", "at"] [(.var 1), (.comp true [2, 3] (.one 3) (.var 1) none (.ife (.cmp .ge (.var 3) (.bin .pow (.cst (.int 10)) (.cst (.int 18)))) (.var 3) (.cst (.int 0)))), (.cst (.int 0))])]⟩
def f__law_draw : Fn := ⟨2, 6, [.set 2 (.dget (.var 0) (.cst (.str "at"))), .dput (.var 0) (.cst (.str "at")) (.bin .add (.var 2) (.cst (.int 1))), .set 3 (.bin .mod (.p1 .int_ (.var 2)) (.p1 .len (.dget (.var 0) (.cst (.str "cells"))))), .set 4 (.idx (.dget (.var 0) (.cst (.str "lefts"))) (.var 3)), .ite (.cmp .gt (.var 4) (.cst (.int 0))) [.sub (.dget (.var 0) (.cst (.str "lefts"))) (.var 3) (.bin .fdiv (.var 4) (.var 1)), .ret (.bin .mod (.p1 .int_ (.var 4)) (.var 1))] [], .set 5 (.call 20 [(.call 20 [(.idx (.dget (.var 0) (.cst (.str "cells"))) (.var 3)), (.var 2)]), (.bin .add (.cst (.int 40)) (.var 2))]), .ret (.bin .mod (.bin .fdiv (.p1 .int_ (.bin .add (.bin .mul (.var 5) (.cst (.int 2147483647))) (.call 20 [(.var 5), (.bin .add (.cst (.int 7)) (.var 2))]))) (.cst (.int 64))) (.var 1))]⟩
def f__law_of : Fn := ⟨2, 2, [.ret (.idx (.var 1) (.call 22 [(.var 0), (.p1 .len (.var 1))]))]⟩
def f__law_divisor : Fn := ⟨2, 2, [.par 0 1 (.p2 .max2 (.var 0) (.neg (.var 0))) (.p2 .max2 (.var 1) (.neg (.var 1))), .while_ (.cmp .gt (.var 1) (.cst (.int 0))) [.par 0 1 (.var 1) (.bin .mod (.var 0) (.var 1))], .ret (.var 0)]⟩
def f__law_like : Fn := ⟨2, 2, [.ret (.cmp .eq (.p1 .repr_ (.var 0)) (.p1 .repr_ (.var 1)))]⟩
def f__law_heard : Fn := ⟨1, 3, [.try_ [.set 1 (.tup [(.cst (.str "told")), .act])] [⟨0, 2, some 1, [.txt "place", .fld, .isc 6, .isc 1]⟩, ⟨1, 2, some 1, [.txt "island", .fld, .isc 6, .isc 0]⟩, ⟨2, 2, some 1, [.txt "direction", .fld, .isc 6, .isc 0]⟩, ⟨3, 2, some 1, [.txt "parameter", .fld, .isc 6, .isc 0]⟩, ⟨4, 2, some 1, [.txt "great", .fld, .isc 6, .isc 0]⟩, ⟨5, 2, some 1, [.txt "none", .isc 6, .isc 0]⟩], .ret (.var 1)]⟩
def f__law_toward : Fn := ⟨2, 3, [.set 2 (.tup [(.bin .sub (.call 22 [(.var 0), (.bin .add (.bin .mul (.cst (.int 2)) (.var 1)) (.cst (.int 1)))]) (.var 1)), (.bin .sub (.call 22 [(.var 0), (.bin .add (.bin .mul (.cst (.int 2)) (.var 1)) (.cst (.int 1)))]) (.var 1))]), .ret (.ife (.cmp .ne (.var 2) (.tup [(.cst (.int 0)), (.cst (.int 0))])) (.var 2) (.tup [(.cst (.int 1)), (.cst (.int 0))]))]⟩
def f__law_plainly : Fn := ⟨1, 2, [.set 1 (.call 24 [(.idx (.var 0) (.cst (.int 0))), (.idx (.var 0) (.cst (.int 1)))]), .ret (.tup [(.bin .fdiv (.idx (.var 0) (.cst (.int 0))) (.var 1)), (.bin .fdiv (.idx (.var 0) (.cst (.int 1))) (.var 1))])]⟩
def f__law_half : Fn := ⟨1, 1, [.ret (.ife (.or_ (.cmp .gt (.idx (.var 0) (.cst (.int 1))) (.cst (.int 0))) (.and_ (.cmp .eq (.idx (.var 0) (.cst (.int 1))) (.cst (.int 0))) (.cmp .gt (.idx (.var 0) (.cst (.int 0))) (.cst (.int 0))))) (.cst (.int 0)) (.cst (.int 1)))]⟩
def f__law_ahead : Fn := ⟨2, 2, [.ite (.cmp .ne (.call 29 [(.var 0)]) (.call 29 [(.var 1)])) [.ret (.cmp .lt (.call 29 [(.var 0)]) (.call 29 [(.var 1)]))] [], .ret (.cmp .gt (.bin .sub (.bin .mul (.idx (.var 0) (.cst (.int 0))) (.idx (.var 1) (.cst (.int 1)))) (.bin .mul (.idx (.var 0) (.cst (.int 1))) (.idx (.var 1) (.cst (.int 0))))) (.cst (.int 0)))]⟩
def f__law_sorted : Fn := ⟨1, 6, [.set 1 (.lst false []), .for_ (.one 2) (.comp false [4, 2] (.one 2) (.var 0) none (.call 28 [(.var 2)])) [.ite (.cmp .notin (.var 2) (.var 1)) [.set 3 (.p1 .len (.comp false [4, 5] (.one 5) (.var 1) (some (.call 30 [(.var 5), (.var 2)])) (.cst (.int 1)))), .set 1 (.bin .add (.bin .add (.slc (.var 1) none (some (.var 3))) (.lst false [(.var 2)])) (.slc (.var 1) (some (.var 3)) none))] []], .ret (.p1 .tuple_ (.var 1))]⟩
def f__law_right : Fn := ⟨1, 12, [.set 1 (.p1 .tuple_ (.comp false [9, 10] (.one 10) (.range1 (.call 22 [(.var 0), (.cst (.int 11))])) none (.call 27 [(.var 0), (.call 23 [(.var 0), (.lst false [(.cst (.int 4)), (.bin .pow (.cst (.int 10)) (.cst (.int 5)))])])]))), .set 2 (.call 31 [(.var 1)]), .set 4 (.p1 .tuple_ (.comp false [9, 3] (.one 3) (.var 1) none (.tup [(.bin .mul (.cst (.int 3)) (.idx (.var 3) (.cst (.int 0)))), (.bin .mul (.cst (.int 3)) (.idx (.var 3) (.cst (.int 1))))]))), .ite (.not_ (.call 25 [(.lst false [(.call 19 [(.var 1)]), (.call 19 [(.rev (.var 4))]), (.call 19 [(.var 2)])]), (.bin .mul (.lst false [(.var 2)]) (.cst (.int 3)))])) [.ret (.cst (.bool false))] [], .set 5 (.p1 .tuple_ (.comp false [9, 3] (.one 3) (.var 2) none (.call 13 [(.var 3)]))), .ite (.not_ (.call 25 [(.var 5), (.p1 .tuple_ (.comp false [9, 3] (.one 3) (.var 2) none (.tup [(.neg (.idx (.var 3) (.cst (.int 1)))), (.idx (.var 3) (.cst (.int 0)))])))])) [.ret (.cst (.bool false))] [], .set 6 (.call 19 [(.var 5)]), .set 7 (.comp false [9, 11] (.one 11) (.range1 (.p1 .len (.var 6))) none (.bin .add (.slc (.var 5) (some (.var 11)) none) (.slc (.var 5) none (some (.var 11))))), .ite (.or_ (.cmp .ne (.p1 .sorted_ (.var 6)) (.p1 .sorted_ (.var 5))) (.and_ (.cmp .ne (.var 6) (.tup [])) (.cmp .notin (.var 6) (.var 7)))) [.ret (.cst (.bool false))] [], .for_ (.one 3) (.var 1) [.set 8 (.lst false [(.call 12 [(.var 3)]), (.call 8 [(.var 3)]), (.call 13 [(.call 13 [(.var 3)])])]), .ite (.not_ (.call 25 [(.var 8), (.lst false [(.call 28 [(.var 3)]), (.var 3), (.tup [(.neg (.idx (.var 3) (.cst (.int 0)))), (.neg (.idx (.var 3) (.cst (.int 1))))])])])) [.ret (.cst (.bool false))] []], .ret (.cst (.bool true))]⟩
def f__law_by_hand : Fn := ⟨0, 7, [.set 0 (.bin .pow (.cst (.int 10)) (.cst (.int 6))), .set 1 (.lst false [(.call 19 [(.tup [(.tup [(.cst (.int 0)), (.neg (.cst (.int 2)))]), (.tup [(.cst (.int 3)), (.cst (.int 0))]), (.tup [(.neg (.cst (.int 1))), (.cst (.int 1))]), (.tup [(.cst (.int 1)), (.cst (.int 0))]), (.tup [(.cst (.int 1)), (.cst (.int 1))])])]), (.call 12 [(.tup [(.var 0), (.neg (.var 0))])])]), .set 1 (.bin .add (.var 1) (.lst false [(.call 13 [(.tup [(.cst (.int 1)), (.cst (.int 2))])]), (.call 10 [(.tup [(.cst (.int 2)), (.cst (.int 3))]), (.tup [(.cst (.int 5)), (.cst (.int 7))])]), (.call 19 [(.tup [])])])), .set 1 (.bin .add (.var 1) (.lst false [(.cmp .eq (.call 19 [(.p1 .tuple_ (.comp false [5, 6] (.one 6) (.range1 (.cst (.int 60))) none (.tup [(.cst (.int 1)), (.var 6)])))]) (.p1 .tuple_ (.comp false [5, 6] (.one 6) (.range1 (.cst (.int 60))) none (.tup [(.cst (.int 1)), (.var 6)]))))])), .ite (.not_ (.call 25 [(.var 1), (.lst false [(.tup [(.tup [(.cst (.int 1)), (.cst (.int 0))]), (.tup [(.cst (.int 1)), (.cst (.int 1))]), (.tup [(.neg (.cst (.int 1))), (.cst (.int 1))]), (.tup [(.cst (.int 0)), (.neg (.cst (.int 1)))])]), (.tup [(.cst (.int 1)), (.neg (.cst (.int 1)))]), (.tup [(.neg (.cst (.int 2))), (.cst (.int 1))]), (.cst (.int 31)), (.tup []), (.cst (.bool true))])])) [.ret (.cst (.bool false))] [], .set 3 (.bin .mul (.tup [(.tup [(.cst (.int 1)), (.cst (.int 0))])]) (.cst (.int 61))), .set 1 (.lst true [(.lam 26 (.call 19 [(.var 3)]))]), .app (.var 1) (.lam 26 (.call 19 [(.lst false [(.tup [(.cst (.int 1)), (.cst (.int 0))])])])), .app (.var 1) (.lam 26 (.call 19 [(.tup [(.tup [(.cst (.int 1)), (.cst (.int 0))]), (.tup [(.cst (.int 0)), (.cst (.int 0))]), (.cst .none)])])), .app (.var 1) (.lam 26 (.call 19 [(.cst .none)])), .set 2 (.lst false [(.tup [(.cst (.str "parameter")), (.var 3), (.cst (.bool true)), (.cst (.bool false))]), (.tup [(.cst (.str "parameter")), (.lst false [(.tup [(.cst (.int 1)), (.cst (.int 0))])]), (.cst (.bool true)), (.cst (.bool false))]), (.tup [(.cst (.str "direction")), (.tup [(.cst (.int 0)), (.cst (.int 0))]), (.cst (.bool true)), (.cst (.bool false))])]), .frz 1, .ite (.not_ (.call 25 [(.var 1), (.bin .add (.var 2) (.lst false [(.tup [(.cst (.str "parameter")), (.cst .none), (.cst (.bool true)), (.cst (.bool false))])]))])) [.ret (.cst (.bool false))] [], .for_ (.one 4) (.tup [(.tup [(.cst (.int 0)), (.cst (.int 0))]), (.tup [(.bin .add (.var 0) (.cst (.int 1))), (.cst (.int 1))]), (.tup [(.cst (.int 1)), (.cst (.bool false))]), (.lst false [(.cst (.int 1)), (.cst (.int 1))]), (.cst (.int 5))]) [.set 1 (.lst true [(.lam 26 (.call 12 [(.var 4)]))]), .app (.var 1) (.lam 26 (.call 13 [(.var 4)])), .app (.var 1) (.lam 26 (.call 8 [(.var 4)])), .frz 1, .ite (.not_ (.call 25 [(.var 1), (.bin .mul (.lst false [(.tup [(.cst (.str "direction")), (.var 4), (.cst (.bool true)), (.cst (.bool false))])]) (.cst (.int 3)))])) [.ret (.cst (.bool false))] []], .ret (.cst (.bool true))]⟩
def f_law : Fn := ⟨1, 3, [.set 1 (.call 21 [(.var 0)]), .for_ (.one 2) (.range1 (.cst (.int 3))) [.ite (.not_ (.call 32 [(.var 1)])) [.ret (.cst (.bool false))] []], .ret (.call 33 [])]⟩
def tabV : List Fn := [f_is_integer, f_is_number, f_are_two, f_is_pair, f_is_tuple_of, f_is_place, f_need_place, f_is_direction, f_need_direction, f_inner, f_dot, f_made_plain, f_least_direction, f_turned_left, f_is_first_half, f_crossed, f_comes_before, f_how_many_before, f_put_in_order, f_in_order, f__law_mixed, f__law_begin, f__law_draw, f__law_of, f__law_divisor, f__law_like, f__law_heard, f__law_toward, f__law_plainly, f__law_half, f__law_ahead, f__law_sorted, f__law_right, f__law_by_hand, f_law]
def tab (f : Nat) : Option Fn := tabV[f]?
abbrev run (n : Nat) : FnT := runF gcK tab n
theorem t_is_integer : tab 0 = some f_is_integer := rfl
theorem t_is_number : tab 1 = some f_is_number := rfl
theorem t_are_two : tab 2 = some f_are_two := rfl
theorem t_is_pair : tab 3 = some f_is_pair := rfl
theorem t_is_tuple_of : tab 4 = some f_is_tuple_of := rfl
theorem t_is_place : tab 5 = some f_is_place := rfl
theorem t_need_place : tab 6 = some f_need_place := rfl
theorem t_is_direction : tab 7 = some f_is_direction := rfl
theorem t_need_direction : tab 8 = some f_need_direction := rfl
theorem t_inner : tab 9 = some f_inner := rfl
theorem t_dot : tab 10 = some f_dot := rfl
theorem t_made_plain : tab 11 = some f_made_plain := rfl
theorem t_least_direction : tab 12 = some f_least_direction := rfl
theorem t_turned_left : tab 13 = some f_turned_left := rfl
theorem t_is_first_half : tab 14 = some f_is_first_half := rfl
theorem t_crossed : tab 15 = some f_crossed := rfl
theorem t_comes_before : tab 16 = some f_comes_before := rfl
theorem t_how_many_before : tab 17 = some f_how_many_before := rfl
theorem t_put_in_order : tab 18 = some f_put_in_order := rfl
theorem t_in_order : tab 19 = some f_in_order := rfl
theorem t__law_mixed : tab 20 = some f__law_mixed := rfl
theorem t__law_begin : tab 21 = some f__law_begin := rfl
theorem t__law_draw : tab 22 = some f__law_draw := rfl
theorem t__law_of : tab 23 = some f__law_of := rfl
theorem t__law_divisor : tab 24 = some f__law_divisor := rfl
theorem t__law_like : tab 25 = some f__law_like := rfl
theorem t__law_heard : tab 26 = some f__law_heard := rfl
theorem t__law_toward : tab 27 = some f__law_toward := rfl
theorem t__law_plainly : tab 28 = some f__law_plainly := rfl
theorem t__law_half : tab 29 = some f__law_half := rfl
theorem t__law_ahead : tab 30 = some f__law_ahead := rfl
theorem t__law_sorted : tab 31 = some f__law_sorted := rfl
theorem t__law_right : tab 32 = some f__law_right := rfl
theorem t__law_by_hand : tab 33 = some f__law_by_hand := rfl
theorem t_law : tab 34 = some f_law := rfl
theorem run_of {n f : Nat} {fn : Fn} {ws : List W} {σ : List O} (h : tab f = some fn) (hl : ws.length = fn.np) : run (n + 1) f ws σ = (exs gcK (run n) (lamOf gcK tab (run n)) (fun _ => .stuck) fn.body (startE fn.ns ws) σ).out := by
  show runF gcK tab (n + 1) f ws σ = _
  unfold runF
  rw [h]
  simp only [if_pos hl]
end K3

end
section
set_option linter.all false
set_option autoImplicit false
set_option maxRecDepth 10000
namespace K3
open PySem Ci Po
/-- a direction that is let -/
def Ok (p : Pt) : Prop := nz p ∧ p.1.natAbs ≤ 999999 ∧ p.2.natAbs ≤ 999999
abbrev dp (p : Pt) : W := .d (pairD p)
theorem smallI_of {i : Int} (h : i.natAbs < 2 ^ 63) : smallI i = true := by
  unfold smallI
  exact decide_eq_true (by omega)
theorem r_is_integer (n : Nat) (i : Int) (σ : List O) : run (n + 1) 0 [.d (.int i)] σ = .ok (.d (.bool true)) σ := by
  rw [run_of t_is_integer rfl]
  simp [f_is_integer, exs, ex, ev, evs, evo, evt, R.st, R.bind, varW, startE, Ci.putAt, wipeE, index, seqOf, ok, okO, okB, atD, L2.atI, L2.ixN, binW, bop, negW, isaW, isaD, compare2, cop2, ints2, onS, onB, thenS, SR.out, errS, prim1, prim2, twoInts, p2I, tupW, lstW, lstAs, dataOf, unpS, putMany, aim]
theorem r_is_number (n : Nat) (i l m : Int) (σ : List O) (h1 : l ≤ i) (h2 : i ≤ m) : run (n + 2) 1 [.d (.int i), .d (.int l), .d (.int m)] σ = .ok (.d (.bool true)) σ := by
  rw [run_of t_is_number rfl]
  simp [f_is_number, r_is_integer, h1, h2, exs, ex, ev, evs, evo, evt, R.st, R.bind, varW, startE, Ci.putAt, wipeE, index, seqOf, ok, okO, okB, atD, L2.atI, L2.ixN, binW, bop, negW, isaW, isaD, compare2, cop2, ints2, onS, onB, thenS, SR.out, errS, prim1, prim2, twoInts, p2I, tupW, lstW, lstAs, dataOf, unpS, putMany, aim]
theorem r_are_two (n : Nat) (p : Pt) (σ : List O) : run (n + 1) 2 [dp p] σ = .ok (.d (.bool true)) σ := by
  unfold dp pairD
  rw [run_of t_are_two rfl]
  simp [f_are_two, pairD, eqD, SeqAt.shaped, PyData.canLay0, PyData.depth, PyData.eqv, exs, ex, ev, evs, evo, evt, R.st, R.bind, varW, startE, Ci.putAt, wipeE, index, seqOf, ok, okO, okB, atD, L2.atI, L2.ixN, binW, bop, negW, isaW, isaD, compare2, cop2, ints2, onS, onB, thenS, SR.out, errS, prim1, prim2, twoInts, p2I, tupW, lstW, lstAs, dataOf, unpS, putMany, aim]
theorem r_is_pair (n : Nat) (p : Pt) (m : Int) (σ : List O) (h1 : -m ≤ p.1) (h2 : p.1 ≤ m) (h3 : -m ≤ p.2) (h4 : p.2 ≤ m) : run (n + 3) 3 [dp p, .d (.int m)] σ = .ok (.d (.bool true)) σ := by
  have e := r_are_two (n + 1) p σ
  unfold dp pairD at e ⊢
  rw [run_of t_is_pair rfl]
  simp [f_is_pair, e, r_is_number _ _ _ _ σ h1 h2, r_is_number _ _ _ _ σ h3 h4, exs, ex, ev, evs, evo, evt, R.st, R.bind, varW, startE, Ci.putAt, wipeE, index, seqOf, ok, okO, okB, atD, L2.atI, L2.ixN, binW, bop, negW, isaW, isaD, compare2, cop2, ints2, onS, onB, thenS, SR.out, errS, prim1, prim2, twoInts, p2I, tupW, lstW, lstAs, dataOf, unpS, putMany, aim]
theorem r_is_direction (n : Nat) (p : Pt) (σ : List O) (h : Ok p) : run (n + 4) 7 [dp p] σ = .ok (.d (.bool true)) σ := by
  obtain ⟨h0, h1, h2⟩ := h
  have e := r_is_pair n p 1000000 σ (by omega) (by omega) (by omega) (by omega)
  have e2 : eqD (pairD p) (pairD (0, 0)) = some false := by
    rw [eqD_pair]
    congr 1
    rw [decide_eq_false_iff_not]
    intro z
    unfold nz at h0
    rw [z] at h0
    simp at h0
  unfold dp pairD at e ⊢
  unfold pairD at e2
  rw [run_of t_is_direction rfl]
  simp only [show ((0 : Int), (0 : Int)).1 = 0 from rfl, show ((0 : Int), (0 : Int)).2 = 0 from rfl] at e2
  simp [f_is_direction, e, e2, exs, ex, ev, evs, evo, evt, R.st, R.bind, varW, startE, Ci.putAt, wipeE, index, seqOf, ok, okO, okB, atD, L2.atI, L2.ixN, binW, bop, negW, isaW, isaD, compare2, cop2, ints2, onS, onB, thenS, SR.out, errS, prim1, prim2, twoInts, p2I, tupW, lstW, lstAs, dataOf, unpS, putMany, aim]
theorem r_need_direction (n : Nat) (p : Pt) (σ : List O) (h : Ok p) : run (n + 5) 8 [dp p] σ = .ok (dp p) σ := by
  have e := r_is_direction n p σ h
  rw [run_of t_need_direction rfl]
  simp [f_need_direction, e, exs, ex, ev, evs, evo, evt, R.st, R.bind, varW, startE, Ci.putAt, wipeE, index, seqOf, ok, okO, okB, atD, L2.atI, L2.ixN, binW, bop, negW, isaW, isaD, compare2, cop2, ints2, onS, onB, thenS, SR.out, errS, prim1, prim2, twoInts, p2I, tupW, lstW, lstAs, dataOf, unpS, putMany, aim]
theorem r_made_plain (n : Nat) (p : Pt) (σ : List O) (h : Ok p) : run (n + 1) 11 [dp p] σ = .ok (dp (pl p)) σ := by
  obtain ⟨h0, h1, h2⟩ := h
  have gp := g_pos h0
  have gl := g_le 999999 h1 h2
  have c1 : ¬ g p = 0 := by omega
  have c2 : (g p).natAbs < 1073741824 := by omega
  have e : ((p.1.natAbs.gcd p.2.natAbs : Nat) : Int) = g p := rfl
  unfold dp pairD
  rw [run_of t_made_plain rfl]
  simp [f_made_plain, e, c1, c2, pl, exs, ex, ev, evs, evo, evt, R.st, R.bind, varW, startE, Ci.putAt, wipeE, index, seqOf, ok, okO, okB, atD, L2.atI, L2.ixN, binW, bop, negW, isaW, isaD, compare2, cop2, ints2, onS, onB, thenS, SR.out, errS, prim1, prim2, twoInts, p2I, tupW, lstW, lstAs, dataOf, unpS, putMany, aim]
theorem r_least_direction (n : Nat) (p : Pt) (σ : List O) (h : Ok p) : run (n + 6) 12 [dp p] σ = .ok (dp (pl p)) σ := by
  rw [run_of t_least_direction rfl]
  simp [f_least_direction, r_need_direction _ p σ h, r_made_plain _ p σ h, exs, ex, ev, evs, evo, evt, R.st, R.bind, varW, startE, Ci.putAt, wipeE, index, seqOf, ok, okO, okB, atD, L2.atI, L2.ixN, binW, bop, negW, isaW, isaD, compare2, cop2, ints2, onS, onB, thenS, SR.out, errS, prim1, prim2, twoInts, p2I, tupW, lstW, lstAs, dataOf, unpS, putMany, aim]
theorem r_turned_left (n : Nat) (p : Pt) (σ : List O) (h : Ok p) : run (n + 6) 13 [dp p] σ = .ok (dp (tl p)) σ := by
  have e := r_need_direction n p σ h
  unfold dp pairD at e ⊢
  rw [run_of t_turned_left rfl]
  simp [f_turned_left, e, tl, exs, ex, ev, evs, evo, evt, R.st, R.bind, varW, startE, Ci.putAt, wipeE, index, seqOf, ok, okO, okB, atD, L2.atI, L2.ixN, binW, bop, negW, isaW, isaD, compare2, cop2, ints2, onS, onB, thenS, SR.out, errS, prim1, prim2, twoInts, p2I, tupW, lstW, lstAs, dataOf, unpS, putMany, aim]
theorem r_is_first_half (n : Nat) (p : Pt) (σ : List O) : run (n + 1) 14 [dp p] σ = .ok (.d (.bool (up p))) σ := by
  unfold dp pairD
  rw [run_of t_is_first_half rfl]
  by_cases h1 : 0 < p.2
  · simp [f_is_first_half, up, h1, exs, ex, ev, evs, evo, evt, R.st, R.bind, varW, startE, Ci.putAt, wipeE, index, seqOf, ok, okO, okB, atD, L2.atI, L2.ixN, binW, bop, negW, isaW, isaD, compare2, cop2, ints2, onS, onB, thenS, SR.out, errS, prim1, prim2, twoInts, p2I, tupW, lstW, lstAs, dataOf, unpS, putMany, aim]
  · by_cases h2 : p.2 = 0
    · simp [f_is_first_half, up, h2, eqD, SeqAt.shaped, PyData.canLay0, PyData.depth, PyData.eqv, exs, ex, ev, evs, evo, evt, R.st, R.bind, varW, startE, Ci.putAt, wipeE, index, seqOf, ok, okO, okB, atD, L2.atI, L2.ixN, binW, bop, negW, isaW, isaD, compare2, cop2, ints2, onS, onB, thenS, SR.out, errS, prim1, prim2, twoInts, p2I, tupW, lstW, lstAs, dataOf, unpS, putMany, aim]
    · have e3 : (p.2 == 0) = false := by simpa using h2
      simp [f_is_first_half, up, h1, h2, e3, eqD, SeqAt.shaped, PyData.canLay0, PyData.depth, PyData.eqv, exs, ex, ev, evs, evo, evt, R.st, R.bind, varW, startE, Ci.putAt, wipeE, index, seqOf, ok, okO, okB, atD, L2.atI, L2.ixN, binW, bop, negW, isaW, isaD, compare2, cop2, ints2, onS, onB, thenS, SR.out, errS, prim1, prim2, twoInts, p2I, tupW, lstW, lstAs, dataOf, unpS, putMany, aim]
theorem r_crossed (n : Nat) (a b : Pt) (σ : List O) (h : Ok a) : run (n + 1) 15 [dp a, dp b] σ = .ok (.d (.int (crs a b))) σ := by
  have s1 : smallI a.1 = true := smallI_of (by have := h.2.1; omega)
  have s2 : smallI a.2 = true := smallI_of (by have := h.2.2; omega)
  unfold dp pairD
  rw [run_of t_crossed rfl]
  simp [f_crossed, crs, s1, s2, exs, ex, ev, evs, evo, evt, R.st, R.bind, varW, startE, Ci.putAt, wipeE, index, seqOf, ok, okO, okB, atD, L2.atI, L2.ixN, binW, bop, negW, isaW, isaD, compare2, cop2, ints2, onS, onB, thenS, SR.out, errS, prim1, prim2, twoInts, p2I, tupW, lstW, lstAs, dataOf, unpS, putMany, aim]
theorem eqD_bool (a b : Bool) : eqD (.bool a) (.bool b) = some (a == b) := by
  simp [eqD, SeqAt.shaped, PyData.canLay0, PyData.depth, PyData.eqv]
theorem eqD_int (a b : Int) : eqD (.int a) (.int b) = some (a == b) := by
  simp [eqD, SeqAt.shaped, PyData.canLay0, PyData.depth, PyData.eqv]
theorem r_comes_before (n : Nat) (a b : Pt) (σ : List O) (h : Ok a) : run (n + 2) 16 [dp a, dp b] σ = .ok (.d (.bool (bef a b))) σ := by
  rw [run_of t_comes_before rfl]
  by_cases e : up a = up b
  · simp [f_comes_before, r_is_first_half, r_crossed _ _ _ _ h, eqD_bool, e, bef, exs, ex, ev, evs, evo, evt, R.st, R.bind, varW, startE, Ci.putAt, wipeE, index, seqOf, ok, okO, okB, atD, L2.atI, L2.ixN, binW, bop, negW, isaW, isaD, compare2, cop2, ints2, onS, onB, thenS, SR.out, errS, prim1, prim2, twoInts, p2I, tupW, lstW, lstAs, dataOf, unpS, putMany, aim]
  · cases h1 : up a <;> cases h2 : up b <;> simp_all [f_comes_before, r_is_first_half, r_crossed _ _ _ _ h, eqD_bool, bef, exs, ex, ev, evs, evo, evt, R.st, R.bind, varW, startE, Ci.putAt, wipeE, index, seqOf, ok, okO, okB, atD, L2.atI, L2.ixN, binW, bop, negW, isaW, isaD, compare2, cop2, ints2, onS, onB, thenS, SR.out, errS, prim1, prim2, twoInts, p2I, tupW, lstW, lstAs, dataOf, unpS, putMany, aim]
end K3

end
section
set_option linter.all false
set_option autoImplicit false
set_option maxRecDepth 10000
namespace K3
open PySem Ci Po
abbrev EV (n : Nat) := ev (run n) (lamOf gcK tab (run n)) (fun _ => .stuck)
abbrev XS (n : Nat) := exs gcK (run n) (lamOf gcK tab (run n)) (fun _ => .stuck)
abbrev EX (n : Nat) := ex gcK (run n) (lamOf gcK tab (run n)) (fun _ => .stuck)
theorem run_by {n f : Nat} {fn : Fn} {ws : List W} {σ : List O} {r : SR} {o : R W} (h : tab f = some fn) (hl : ws.length = fn.np) (hr : XS n fn.body (startE fn.ns ws) σ = r) (ho : r.out = o) : run (n + 1) f ws σ = o := by
  rw [run_of h hl, ← ho, ← hr]
theorem xs_nil {n : Nat} {ρ : Ev} {σ : List O} : XS n [] ρ σ = .next ρ σ := by
  simp only [XS, exs]
theorem xs_cons {n : Nat} {s : S} {r : List S} {ρ ρ1 : Ev} {σ σ1 : List O} {q : SR} (h : EX n s ρ σ = .next ρ1 σ1) (h2 : XS n r ρ1 σ1 = q) : XS n (s :: r) ρ σ = q := by
  have h : ex gcK (run n) (lamOf gcK tab (run n)) (fun _ => .stuck) s ρ σ = .next ρ1 σ1 := h
  have h2 : exs gcK (run n) (lamOf gcK tab (run n)) (fun _ => .stuck) r ρ1 σ1 = q := h2
  simp only [XS, exs, h, thenS, h2]
theorem xs_ret {n : Nat} {s : S} {r : List S} {ρ : Ev} {σ σ1 : List O} {w : W} (h : EX n s ρ σ = .ret w σ1) : XS n (s :: r) ρ σ = .ret w σ1 := by
  have h : ex gcK (run n) (lamOf gcK tab (run n)) (fun _ => .stuck) s ρ σ = .ret w σ1 := h
  simp only [XS, exs, h, thenS]
theorem xs_err {n : Nat} {s : S} {r : List S} {ρ ρ1 : Ev} {σ σ1 : List O} {c : Nat} {f : PyData} (h : EX n s ρ σ = .err c f ρ1 σ1) : XS n (s :: r) ρ σ = .err c f ρ1 σ1 := by
  have h : ex gcK (run n) (lamOf gcK tab (run n)) (fun _ => .stuck) s ρ σ = .err c f ρ1 σ1 := h
  simp only [XS, exs, h, thenS]
theorem ex_for {n : Nat} {tg : Tg} {it : C} {b : List S} {ρ : Ev} {σ σ1 : List O} {w : W} {xs : List PyData} {r : SR} (h : EV n it ρ σ = .ok w σ1) (hw : walkOf w = some xs) (hl : forL (aim tg) (fun ρ1 σ2 => XS n b ρ1 σ2) xs ρ σ1 = r) : EX n (.for_ tg it b) ρ σ = r := by
  have h : ev (run n) (lamOf gcK tab (run n)) (fun _ => .stuck) it ρ σ = .ok w σ1 := h
  unfold XS at hl
  simp only [EX, ex, h, R.st, walkS, hw]
  exact hl
theorem ex_while {n : Nat} {t : C} {b : List S} {ρ : Ev} {σ : List O} {r : SR} (hl : whileL (fun ρ1 σ1 => EV n t ρ1 σ1) (fun ρ1 σ2 => XS n b ρ1 σ2) 1000000 ρ σ = r) : EX n (.while_ t b) ρ σ = r := by
  unfold XS EV at hl
  simp only [EX, ex]
  exact hl
theorem ex_set {n i : Nat} {e : C} {ρ : Ev} {σ σ1 : List O} {w : W} (h : EV n e ρ σ = .ok w σ1) : EX n (.set i e) ρ σ = .next (ρ.set i (some w)) σ1 := by
  have h : ev (run n) (lamOf gcK tab (run n)) (fun _ => .stuck) e ρ σ = .ok w σ1 := h
  simp only [EX, ex, h, R.st, Ci.putAt]
theorem ex_ret {n : Nat} {e : C} {ρ : Ev} {σ σ1 : List O} {w : W} (h : EV n e ρ σ = .ok w σ1) : EX n (.ret e) ρ σ = .ret w σ1 := by
  have h : ev (run n) (lamOf gcK tab (run n)) (fun _ => .stuck) e ρ σ = .ok w σ1 := h
  simp only [EX, ex, h, R.st]
theorem ex_ex {n : Nat} {e : C} {ρ : Ev} {σ σ1 : List O} {w : W} (h : EV n e ρ σ = .ok w σ1) : EX n (.ex e) ρ σ = .next ρ σ1 := by
  have h : ev (run n) (lamOf gcK tab (run n)) (fun _ => .stuck) e ρ σ = .ok w σ1 := h
  simp only [EX, ex, h, R.st]
theorem ex_ite_t {n : Nat} {t : C} {a b : List S} {ρ : Ev} {σ σ1 : List O} {r : SR} (h : EV n t ρ σ = .ok (.d (.bool true)) σ1) (h2 : XS n a ρ σ1 = r) : EX n (.ite t a b) ρ σ = r := by
  have h : ev (run n) (lamOf gcK tab (run n)) (fun _ => .stuck) t ρ σ = .ok (.d (.bool true)) σ1 := h
  simp only [EX, ex, h, R.st, onS]
  exact h2
theorem ex_ite_f {n : Nat} {t : C} {a b : List S} {ρ : Ev} {σ σ1 : List O} {r : SR} (h : EV n t ρ σ = .ok (.d (.bool false)) σ1) (h2 : XS n b ρ σ1 = r) : EX n (.ite t a b) ρ σ = r := by
  have h : ev (run n) (lamOf gcK tab (run n)) (fun _ => .stuck) t ρ σ = .ok (.d (.bool false)) σ1 := h
  simp only [EX, ex, h, R.st, onS]
  exact h2
theorem comp_ok {α : Type} {aimF : PyData → Option Ev} {e : Ev → List O → R W} {σ : List O} (gi f : α → PyData) : ∀ (l : List α) (acc : List PyData), (∀ x ∈ l, ∃ ρx, aimF (gi x) = some ρx ∧ e ρx σ = .ok (.d (f x)) σ) → compL aimF (fun _ S => ok (.bool true) S) e (l.map gi) acc σ = .ok (acc ++ l.map f) σ
  | [], acc, _ => by simp [compL]
  | x :: l, acc, h => by
    obtain ⟨ρx, h1, h2⟩ := h x List.mem_cons_self
    have ih := comp_ok gi f l (acc ++ [f x]) fun y hy => h y (List.mem_cons_of_mem _ hy)
    simp only [List.map_cons, compL, h1, ok, h2]
    unfold ok at ih
    rw [ih]
    simp
theorem ev_comp {n : Nat} {α : Type} (gi f : α → PyData) {own : List Nat} {tg : Tg} {it e : C} {ρ : Ev} {σ σ1 : List O} {w : W} {l : List α} (h : EV n it ρ σ = .ok w σ1) (hw : walkOf w = some (l.map gi)) (hl : l.length ≤ 100000) (he : ∀ x ∈ l, ∃ ρx, aim tg (gi x) (wipeE ρ own) = some ρx ∧ EV n e ρx σ1 = .ok (.d (f x)) σ1) :
    EV n (.comp false own tg it none e) ρ σ = .ok (.d (.list (l.map f))) σ1 := by
  have h : ev (run n) (lamOf gcK tab (run n)) (fun _ => .stuck) it ρ σ = .ok w σ1 := h
  have hl2 : (l.map gi).length ≤ 100000 := by rw [List.length_map]; exact hl
  have c := comp_ok (aimF := fun x => aim tg x (wipeE ρ own)) (e := fun ρ1 S2 => EV n e ρ1 S2) (σ := σ1) gi f l [] he
  unfold EV at c
  have tt : (fun ρ1 S2 => evt (run n) (lamOf gcK tab (run n)) (fun _ => .stuck) none ρ1 S2) = fun _ S => ok (.bool true) S := by
    funext ρ1 S2
    simp only [evt]
  unfold ok at c tt
  simp only [EV, ev, h, R.bind, overW, hw, hl2, if_true, tt, c, lstAs, ok, List.nil_append]
  rfl
theorem while_step {t : Ev → List O → R W} {b : Ev → List O → SR} {n : Nat} {ρ : Ev} {S : List O} : whileL t b (n + 1) ρ S = match t ρ S with
    | .ok (.d (.bool true)) S1 => match b ρ S1 with
      | .next ρ2 S2 => whileL t b n ρ2 S2
      | r => r
    | .ok (.d (.bool false)) S1 => .next ρ S1
    | .ok _ _ => .stuck
    | .err c f S1 => .err c f ρ S1
    | .stuck => .stuck := by
  rfl
def hmT : C := .cmp .lt (.var 2) (.var 3)
def hmB : List S := [.set 4 (.bin .fdiv (.bin .add (.var 2) (.var 3)) (.cst (.int 2))), .ite (.call 16 [(.idx (.var 1) (.var 4)), (.var 0)]) [.set 2 (.bin .add (.var 4) (.cst (.int 1)))] [.set 3 (.var 4)]]
theorem hm_loop (n : Nat) (t : Pt) (A B : List Pt) (σ : List O) (k : Nat) (hσ : σ[k]? = some (.lst ((A ++ B).map pairD))) (hok : ∀ x ∈ A ++ B, Ok x) (ha : ∀ x ∈ A, bef x t = true) (hb : ∀ x ∈ B, bef x t = false) :
    ∀ (m lo hi : Nat) (x : Option W) (fuel : Nat), hi - lo ≤ m → m < fuel → lo ≤ A.length → A.length ≤ hi → hi ≤ (A ++ B).length →
      ∃ hi' x', whileL (fun ρ1 σ1 => EV (n + 2) hmT ρ1 σ1) (fun ρ1 σ2 => XS (n + 2) hmB ρ1 σ2) fuel [some (dp t), some (.ref k), some (.d (.int (lo : Nat))), some (.d (.int (hi : Nat))), x] σ =
        .next [some (dp t), some (.ref k), some (.d (.int (A.length : Nat))), some (.d (.int hi')), x'] σ := by
  intro m
  induction m with
  | zero =>
    intro lo hi x fuel h1 h2 h3 h4 h5
    obtain ⟨f, rfl⟩ : ∃ f, fuel = f + 1 := ⟨fuel - 1, by omega⟩
    have e1 : lo = A.length := by omega
    have e2 : hi = A.length := by omega
    subst e1 e2
    refine ⟨(A.length : Nat), x, ?_⟩
    rw [while_step]
    simp [hmT, exs, ex, ev, evs, evo, evt, R.st, R.bind, varW, startE, Ci.putAt, wipeE, index, seqOf, ok, okO, okB, atD, L2.atI, L2.ixN, binW, bop, negW, isaW, isaD, compare2, cop2, ints2, onS, onB, thenS, SR.out, errS, prim1, prim2, twoInts, p2I, tupW, lstW, lstAs, dataOf, unpS, putMany, aim]
  | succ m ih =>
    intro lo hi x fuel h1 h2 h3 h4 h5
    obtain ⟨f, rfl⟩ : ∃ f, fuel = f + 1 := ⟨fuel - 1, by omega⟩
    by_cases c : lo < hi
    · have e : ((lo : Int) + (hi : Int)).fdiv 2 = (((lo + hi) / 2 : Nat) : Int) := by
        rw [Int.fdiv_eq_ediv_of_nonneg _ (by omega)]
        omega
      have e' : (2 : Int).natAbs < 1073741824 := by decide
      have l1 : (lo + hi) / 2 < (A ++ B).length := by omega
      have c' : (lo : Int) < (hi : Int) := by omega
      generalize hq : (lo + hi) / 2 = q at *
      obtain ⟨y, hy⟩ : ∃ y, (A ++ B)[q]? = some y := ⟨_, List.getElem?_eq_getElem l1⟩
      have hy2 : ((A ++ B).map pairD)[q]? = some (pairD y) := by rw [List.getElem?_map, hy]; rfl
      have hl : ((A ++ B).map pairD).length = (A ++ B).length := List.length_map ..
      have oy : Ok y := hok y (List.mem_of_getElem? hy)
      have cb := r_comes_before n y t σ oy
      have i1 : L2.atI ((A ++ B).map pairD) (q : Int) = some (pairD y) := by
        unfold L2.atI L2.ixN
        rw [if_pos (by omega), if_pos (by rw [hl]; omega)]
        simpa using hy2
      clear hy2
      generalize hL : (A ++ B).map pairD = ll at *
      rw [while_step]
      have ev1 : EV (n + 2) hmT [some (dp t), some (.ref k), some (.d (.int (lo : Nat))), some (.d (.int (hi : Nat))), x] σ = .ok (.d (.bool true)) σ := by
        simp [hmT, c', exs, ex, ev, evs, evo, evt, R.st, R.bind, varW, startE, Ci.putAt, wipeE, index, seqOf, ok, okO, okB, atD, L2.atI, L2.ixN, binW, bop, negW, isaW, isaD, compare2, cop2, ints2, onS, onB, thenS, SR.out, errS, prim1, prim2, twoInts, p2I, tupW, lstW, lstAs, dataOf, unpS, putMany, aim]
      cases hbq : bef y t with
      | true =>
        have lq : q < A.length := by
          apply Classical.byContradiction
          intro z
          have : y ∈ B := by
            rw [List.getElem?_append_right (by omega)] at hy
            exact List.mem_of_getElem? hy
          rw [hb y this] at hbq
          cases hbq
        have ex1 : XS (n + 2) hmB [some (dp t), some (.ref k), some (.d (.int (lo : Nat))), some (.d (.int (hi : Nat))), x] σ = .next [some (dp t), some (.ref k), some (.d (.int ((q + 1 : Nat) : Int))), some (.d (.int (hi : Nat))), some (.d (.int (q : Nat)))] σ := by
          rw [hbq] at cb
          have e1 : ((q + 1 : Nat) : Int) = (q : Int) + 1 := by omega
          rw [e1]
          simp only [Ci.atD, hmB, e, e', i1, hσ, cb, exs, ex, ev, evs, evo, evt, R.st, R.bind, varW, startE, Ci.putAt, wipeE, index, seqOf, ok, okO, okB, binW, bop, negW, isaW, isaD, compare2, cop2, ints2, onS, onB, thenS, SR.out, errS, prim1, prim2, twoInts, p2I, tupW, lstW, lstAs, dataOf, unpS, putMany, aim, List.getElem?_cons_zero, List.getElem?_cons_succ, List.set_cons_zero, List.set_cons_succ, List.getElem?_nil]
          simp [e, i1, hσ, cb]
        rw [ev1]
        dsimp only
        rw [ex1]
        exact ih (q + 1) hi _ f (by omega) (by omega) (by omega) h4 h5
      | false =>
        have lq : A.length ≤ q := by
          apply Classical.byContradiction
          intro z
          have : y ∈ A := by
            rw [List.getElem?_append_left (by omega)] at hy
            exact List.mem_of_getElem? hy
          rw [ha y this] at hbq
          cases hbq
        have ex1 : XS (n + 2) hmB [some (dp t), some (.ref k), some (.d (.int (lo : Nat))), some (.d (.int (hi : Nat))), x] σ = .next [some (dp t), some (.ref k), some (.d (.int (lo : Nat))), some (.d (.int (q : Nat))), some (.d (.int (q : Nat)))] σ := by
          rw [hbq] at cb
          simp only [Ci.atD, hmB, e, e', i1, hσ, cb, exs, ex, ev, evs, evo, evt, R.st, R.bind, varW, startE, Ci.putAt, wipeE, index, seqOf, ok, okO, okB, binW, bop, negW, isaW, isaD, compare2, cop2, ints2, onS, onB, thenS, SR.out, errS, prim1, prim2, twoInts, p2I, tupW, lstW, lstAs, dataOf, unpS, putMany, aim, List.getElem?_cons_zero, List.getElem?_cons_succ, List.set_cons_zero, List.set_cons_succ, List.getElem?_nil]
          simp [e, i1, hσ, cb]
        rw [ev1]
        dsimp only
        rw [ex1]
        exact ih lo q _ f (by omega) (by omega) h3 lq (by omega)
    · have e1 : lo = A.length := by omega
      have e2 : hi = A.length := by omega
      subst e1 e2
      refine ⟨(A.length : Nat), x, ?_⟩
      rw [while_step]
      simp [hmT, exs, ex, ev, evs, evo, evt, R.st, R.bind, varW, startE, Ci.putAt, wipeE, index, seqOf, ok, okO, okB, atD, L2.atI, L2.ixN, binW, bop, negW, isaW, isaD, compare2, cop2, ints2, onS, onB, thenS, SR.out, errS, prim1, prim2, twoInts, p2I, tupW, lstW, lstAs, dataOf, unpS, putMany, aim]
end K3

end
section
set_option linter.all false
set_option autoImplicit false
set_option maxRecDepth 10000
namespace K3
open PySem Ci Po
local instance hasK0 : HasK := ⟨[]⟩
theorem r_how_many (n : Nat) (t : Pt) (A B : List Pt) (σ : List O) (k : Nat) (hσ : σ[k]? = some (.lst ((A ++ B).map pairD))) (hok : ∀ x ∈ A ++ B, Ok x) (ha : ∀ x ∈ A, bef x t = true) (hb : ∀ x ∈ B, bef x t = false) (hl : (A ++ B).length < 1000) :
    run (n + 3) 17 [dp t, .ref k] σ = .ok (.d (.int (A.length : Nat))) σ := by
  rw [run_of t_how_many_before rfl]
  obtain ⟨hi', x', h⟩ := hm_loop n t A B σ k hσ hok ha hb (A ++ B).length 0 (A ++ B).length none 1000000 (by omega) (by omega) (by omega) (by simp) (Nat.le_refl _)
  have hl2 : ((A ++ B).map pairD).length = (A ++ B).length := List.length_map ..
  generalize (A ++ B).map pairD = ll at *
  generalize (A ++ B).length = len at *
  have e0 : ((0 : Nat) : Int) = 0 := rfl
  rw [e0] at h
  unfold EV XS hmT hmB at h
  have st : ∀ ρ σ1 r, ex gcK (run (n + 2)) (lamOf gcK tab (run (n + 2))) (fun _ => .stuck) (.while_ (.cmp .lt (.var 2) (.var 3)) r) ρ σ1 = whileL (fun ρ1 σ1 => ev (run (n + 2)) (lamOf gcK tab (run (n + 2))) (fun _ => .stuck) (.cmp .lt (.var 2) (.var 3)) ρ1 σ1) (fun ρ1 σ2 => exs gcK (run (n + 2)) (lamOf gcK tab (run (n + 2))) (fun _ => .stuck) r ρ1 σ2) 1000000 ρ σ1 := fun _ _ _ => by
    simp only [ex]
  unfold f_how_many_before
  simp only [exs]
  have e1 : ex gcK (run (n + 2)) (lamOf gcK tab (run (n + 2))) (fun _ => .stuck) (.par 2 3 (.cst (.int 0)) (.p1 .len (.var 1))) (startE 5 [dp t, .ref k]) σ = .next [some (dp t), some (.ref k), some (.d (.int 0)), some (.d (.int (len : Nat))), none] σ := by
    simp [hσ, hl2, exs, ex, ev, evs, evo, evt, R.st, R.bind, varW, startE, Ci.putAt, wipeE, index, seqOf, ok, okO, okB, atD, L2.atI, L2.ixN, binW, bop, negW, isaW, isaD, compare2, cop2, ints2, onS, onB, thenS, SR.out, errS, prim1, prim2, twoInts, p2I, tupW, lstW, lstAs, dataOf, unpS, putMany, aim]
  rw [e1]
  simp only [thenS]
  rw [st, h]
  simp [exs, ex, ev, evs, evo, evt, R.st, R.bind, varW, startE, Ci.putAt, wipeE, index, seqOf, ok, okO, okB, atD, L2.atI, L2.ixN, binW, bop, negW, isaW, isaD, compare2, cop2, ints2, onS, onB, thenS, SR.out, errS, prim1, prim2, twoInts, p2I, tupW, lstW, lstAs, dataOf, unpS, putMany, aim]
theorem put_map (t : Pt) (l : List Pt) (c : Nat) (h : c = cnt t l) : (l.map pairD).take c ++ pairD t :: (l.map pairD).drop c = (put t l).map pairD := by
  unfold put
  rw [← h]
  simp [List.map_take, List.map_drop]
theorem get_concat {α : Type} (S : List α) (o : α) : (S ++ [o])[S.length]? = some o := by simp
theorem set_concat {α : Type} (S : List α) (o o' : α) : (S ++ [o]).set S.length o' = S ++ [o'] := by simp
def pioB : List S := [.ins (.var 1) (.call 17 [(.var 2), (.var 1)]) (.var 2)]
theorem r_put1 (n : Nat) (a : Option W) (x : Pt) (l : List Pt) (S : List O) (hx : Ok x ∧ Pl x) (hs : Sd l) (hp : ∀ y ∈ l, Ok y ∧ Pl y) (hn : x ∉ l) (hl : l.length < 900) :
    XS (n + 3) pioB [a, some (.ref S.length), some (dp x)] (S ++ [.lst (l.map pairD)]) = .next [a, some (.ref S.length), some (dp x)] (S ++ [.lst ((put x l).map pairD)]) := by
  obtain ⟨A, B, rfl, ha, hb⟩ := split hx.2 hs (fun y hy => (hp y hy).2) hn
  have hb' : ∀ b ∈ B, bef b x = false := fun b m => bef_asy (hb b m)
  have h := r_how_many n x A B (S ++ [.lst ((A ++ B).map pairD)]) S.length (get_concat _ _) (fun y hy => (hp y hy).1) ha hb' (by omega)
  have c : A.length = cnt x (A ++ B) := (cnt_split ha hb).symm
  have pm := put_map x (A ++ B) A.length c
  have lA : A.length ≤ (A ++ B).length := by simp
  have g := get_concat S (O.lst ((A ++ B).map pairD))
  have hl2 : ((A ++ B).map pairD).length = (A ++ B).length := List.length_map ..
  generalize (A ++ B).map pairD = ll at *
  unfold pioB
  simp only [XS, exs, ex, ev, evs, R.st, R.bind, varW, List.getElem?_cons_zero, List.getElem?_cons_succ, lstS, g, h, storeS, insW]
  have c1 : ll.length < 100000 := by omega
  have c2 : (0 : Int) ≤ (A.length : Nat) := by omega
  have c3 : ((A.length : Nat) : Int) ≤ (ll.length : Nat) := by omega
  simp only [c1, c2, c3, and_self, if_true, Int.toNat_natCast, pm, set_concat, thenS]
theorem r_putAll (n : Nat) (a : Option W) (S : List O) : ∀ (xs l : List Pt) (z : Option W), (∀ y ∈ xs, Ok y ∧ Pl y) → xs.Nodup → (∀ y ∈ xs, y ∉ l) → Sd l → (∀ y ∈ l, Ok y ∧ Pl y) → l.length + xs.length < 900 →
    ∃ z', forL (aim (.one 2)) (fun ρ1 σ2 => XS (n + 3) pioB ρ1 σ2) (xs.map pairD) [a, some (.ref S.length), z] (S ++ [.lst (l.map pairD)]) = .next [a, some (.ref S.length), z'] (S ++ [.lst ((xs.foldl ins l).map pairD)])
  | [], l, z, _, _, _, _, _, _ => ⟨z, rfl⟩
  | x :: xs, l, z, h1, h2, h3, h4, h5, h6 => by
    obtain ⟨n1, n2⟩ := List.nodup_cons.mp h2
    have hx := h1 x List.mem_cons_self
    have xl := h3 x List.mem_cons_self
    have h6' : l.length + xs.length + 1 < 900 := by
      have : (x :: xs).length = xs.length + 1 := rfl
      omega
    have lp : (put x l).length ≤ l.length + 1 := by
      unfold put
      simp
      omega
    obtain ⟨z', e⟩ := r_putAll n a S xs (put x l) (some (dp x)) (fun y hy => h1 y (List.mem_cons_of_mem _ hy)) n2 (fun y hy m => by
      rcases (mem_put x y l).mp m with q | q
      · exact n1 (q ▸ hy)
      · exact h3 y (List.mem_cons_of_mem _ hy) q) (put_ok hx.2 h4 (fun y hy => (h5 y hy).2) xl).1 (fun y hy => by
      rcases (mem_put x y l).mp hy with q | q
      · rw [q]; exact hx
      · exact h5 y q) (by omega)
    refine ⟨z', ?_⟩
    have e1 := r_put1 n a x l S hx h4 h5 xl (by omega)
    have ei : ins l x = put x l := if_neg xl
    show forL _ _ (pairD x :: xs.map pairD) _ _ = .next _ (S ++ [.lst ((xs.foldl ins (ins l x)).map pairD)])
    rw [ei, ← e]
    show (match aim (.one 2) (pairD x) [a, some (.ref S.length), z] with
      | none => SR.stuck
      | some ρ1 => match XS (n + 3) pioB ρ1 (S ++ [O.lst (l.map pairD)]) with
        | .next ρ2 S2 => forL (aim (.one 2)) (fun ρ1 σ2 => XS (n + 3) pioB ρ1 σ2) (xs.map pairD) ρ2 S2
        | r => r) = _
    have ea : aim (.one 2) (pairD x) [a, some (.ref S.length), z] = some [a, some (.ref S.length), some (dp x)] := rfl
    rw [ea]
    dsimp only
    rw [e1]
theorem nodup_sortP (l : List Pt) : (sortP l).Nodup := by
  refine List.Pairwise.imp ?_ (sorted_sortP l)
  intro a b h e
  rw [e] at h
  have := pairLt_iff.mp h
  omega
theorem len_insP (a : Pt) : ∀ l : List Pt, (insP a l).length ≤ l.length + 1
  | [] => by simp [insP]
  | b :: r => by
    have := len_insP a r
    unfold insP
    split
    · simp
    · split
      · simp
      · simp
        omega
theorem len_sortP : ∀ l : List Pt, (sortP l).length ≤ l.length
  | [] => by simp [sortP]
  | a :: r => by
    have h := len_sortP r
    have h2 := len_insP a (sortP r)
    show (insP a (sortP r)).length ≤ r.length + 1
    omega
theorem sortSet_pairs {l : List Pt} (h : l.length < 64) : sortSet (.list (l.map pairD)) = some (.list ((sortP l).map pairD)) := by
  unfold sortSet
  simp only [mapM_pairs, if_pos h]
theorem r_put_in_order (n : Nat) (l : List Pt) (S : List O) (h : ∀ y ∈ l, Ok y ∧ Pl y) (hl : l.length < 64) :
    run (n + 4) 18 [.d (.list (l.map pairD))] S = .ok (.d (.list ((srt l).map pairD))) (S ++ [.dead]) := by
  have hm : ∀ y ∈ sortP l, Ok y ∧ Pl y := fun y hy => h y (mem_sortP.mp hy)
  obtain ⟨z', e⟩ := r_putAll n (some (.d (.list (l.map pairD)))) S (sortP l) [] none hm (nodup_sortP l) (fun y _ => by simp) List.Pairwise.nil (fun y hy => by cases hy) (by have := len_sortP l; simp; omega)
  have es : (sortP l).foldl ins [] = srt l := srt_congr (ts := l) (us := sortP l) (fun y hy => (h y hy).2) fun x => mem_sortP
  rw [es] at e
  have hs := sortSet_pairs hl
  have g1 := get_concat S (O.lst ((srt l).map pairD))
  simp only [List.map_nil] at e
  generalize l.map pairD = ll at *
  generalize (sortP l).map pairD = ls at *
  generalize (srt l).map pairD = lr at *
  refine run_by t_put_in_order rfl (xs_cons (ρ1 := [some (.d (.list ll)), some (.ref S.length), none]) (σ1 := S ++ [O.lst []]) ?_ (xs_cons (ex_for (w := .d (.list ls)) (σ1 := S ++ [O.lst []]) (b := pioB) (xs := ls) ?_ rfl e) (xs_cons (ρ1 := [some (.d (.list ll)), some (.d (.list lr)), z']) (σ1 := S ++ [O.dead]) ?_ (xs_ret (ex_ret (w := .d (.list lr)) (σ1 := S ++ [O.dead]) ?_))))) rfl
  · simp [f_put_in_order, newO, exs, ex, ev, evs, evo, evt, R.st, R.bind, varW, startE, Ci.putAt, wipeE, index, seqOf, ok, okO, okB, atD, L2.atI, L2.ixN, binW, bop, negW, isaW, isaD, compare2, cop2, ints2, onS, onB, thenS, SR.out, errS, prim1, prim2, twoInts, p2I, tupW, lstW, lstAs, dataOf, unpS, putMany, aim]
  · simp [sortSetW, hs, exs, ex, ev, evs, evo, evt, R.st, R.bind, varW, startE, Ci.putAt, wipeE, index, seqOf, ok, okO, okB, atD, L2.atI, L2.ixN, binW, bop, negW, isaW, isaD, compare2, cop2, ints2, onS, onB, thenS, SR.out, errS, prim1, prim2, twoInts, p2I, tupW, lstW, lstAs, dataOf, unpS, putMany, aim]
  · simp [frzW, g1, exs, ex, ev, evs, evo, evt, R.st, R.bind, varW, startE, Ci.putAt, wipeE, index, seqOf, ok, okO, okB, atD, L2.atI, L2.ixN, binW, bop, negW, isaW, isaD, compare2, cop2, ints2, onS, onB, thenS, SR.out, errS, prim1, prim2, twoInts, p2I, tupW, lstW, lstAs, dataOf, unpS, putMany, aim]
  · simp [exs, ex, ev, evs, evo, evt, R.st, R.bind, varW, startE, Ci.putAt, wipeE, index, seqOf, ok, okO, okB, atD, L2.atI, L2.ixN, binW, bop, negW, isaW, isaD, compare2, cop2, ints2, onS, onB, thenS, SR.out, errS, prim1, prim2, twoInts, p2I, tupW, lstW, lstAs, dataOf, unpS, putMany, aim]
end K3

end
section
set_option linter.all false
set_option autoImplicit false
set_option maxRecDepth 10000
namespace K3
open PySem Ci Po
theorem Ok.pl {p : Pt} (h : Ok p) : Ok (pl p) ∧ Pl (pl p) := by
  have q := pl_Pl h.1
  have l := pl_le h.1
  exact ⟨⟨q.nz, Nat.le_trans l.1 h.2.1, Nat.le_trans l.2 h.2.2⟩, q⟩
theorem r_is_tuple_of (n : Nat) (xs : List PyData) (a b : Int) (σ : List O) (h1 : a ≤ (xs.length : Nat)) (h2 : ((xs.length : Nat) : Int) ≤ b) : run (n + 1) 4 [.d (.tuple xs), .d (.int a), .d (.int b)] σ = .ok (.d (.bool true)) σ := by
  rw [run_of t_is_tuple_of rfl]
  simp [f_is_tuple_of, h1, h2, exs, ex, ev, evs, evo, evt, R.st, R.bind, varW, startE, Ci.putAt, wipeE, index, seqOf, ok, okO, okB, atD, L2.atI, L2.ixN, binW, bop, negW, isaW, isaD, compare2, cop2, ints2, onS, onB, thenS, SR.out, errS, prim1, prim2, twoInts, p2I, tupW, lstW, lstAs, dataOf, unpS, putMany, aim]
/-- a walk that leaves all but the item's slot as it is -/
theorem for_same {n i : Nat} {b : List S} {α : Type} (gi : α → PyData) (σ : List O) : ∀ (l : List α) (ρ : Ev), (∀ x ∈ l, ∀ ρ' : Ev, ρ'.length = ρ.length → (∀ j, j ≠ i → ρ'[j]? = ρ[j]?) → ρ'[i]? = some (some (.d (gi x))) → XS n b ρ' σ = .next ρ' σ) → i < ρ.length →
    ∃ ρ', forL (aim (.one i)) (fun ρ1 σ2 => XS n b ρ1 σ2) (l.map gi) ρ σ = .next ρ' σ ∧ ρ'.length = ρ.length ∧ ∀ j, j ≠ i → ρ'[j]? = ρ[j]?
  | [], ρ, _, _ => ⟨ρ, rfl, rfl, fun _ _ => rfl⟩
  | x :: l, ρ, h, hi => by
    have l1 : (Ci.putAt i (.d (gi x)) ρ).length = ρ.length := by simp [Ci.putAt]
    have l2 : ∀ j, j ≠ i → (Ci.putAt i (.d (gi x)) ρ)[j]? = ρ[j]? := fun j hj => by
      unfold Ci.putAt
      rw [List.getElem?_set_ne (Ne.symm hj)]
    have l3 : (Ci.putAt i (.d (gi x)) ρ)[i]? = some (some (.d (gi x))) := by
      unfold Ci.putAt
      rw [List.getElem?_set_self hi]
    have e := h x List.mem_cons_self _ l1 l2 l3
    obtain ⟨ρ', q1, q2, q3⟩ := for_same gi σ l (Ci.putAt i (.d (gi x)) ρ) (fun y hy ρ2 a1 a2 a3 => h y (List.mem_cons_of_mem _ hy) ρ2 (a1.trans l1) (fun j hj => (a2 j hj).trans (l2 j hj)) a3) (by rw [l1]; exact hi)
    refine ⟨ρ', ?_, q2.trans l1, fun j hj => (q3 j hj).trans (l2 j hj)⟩
    have ea : aim (.one i) (gi x) ρ = some (Ci.putAt i (.d (gi x)) ρ) := rfl
    simp only [List.map_cons, forL, ea, e]
    exact q1
theorem ev_call {n f : Nat} {es : List C} {ρ : Ev} {σ σ1 σ2 : List O} {ws : List W} {w : W} (h : evs (run n) (lamOf gcK tab (run n)) (fun _ => .stuck) es ρ σ = .ok ws σ1) (h2 : run n f ws σ1 = .ok w σ2) : EV n (.call f es) ρ σ = .ok w σ2 := by
  simp only [EV, ev, h, R.bind, h2]
theorem ev_p1 {n : Nat} {p : P1} {a : C} {ρ : Ev} {σ σ1 : List O} {w : W} {r : R W} (h : EV n a ρ σ = .ok w σ1) (h2 : prim1 p w σ1 = r) : EV n (.p1 p a) ρ σ = r := by
  have h : ev (run n) (lamOf gcK tab (run n)) (fun _ => .stuck) a ρ σ = .ok w σ1 := h
  simp only [EV, ev, h, R.bind, h2]
theorem evs_1 {n : Nat} {a : C} {ρ : Ev} {σ σ1 : List O} {w : W} (h : EV n a ρ σ = .ok w σ1) : evs (run n) (lamOf gcK tab (run n)) (fun _ => .stuck) [a] ρ σ = .ok [w] σ1 := by
  have h : ev (run n) (lamOf gcK tab (run n)) (fun _ => .stuck) a ρ σ = .ok w σ1 := h
  simp only [evs, h, R.bind]
theorem r_in_order (n : Nat) (l : List Pt) (S : List O) (h : ∀ y ∈ l, Ok y) (hl : l.length ≤ 60) :
    run (n + 6) 19 [.d (.tuple (l.map pairD))] S = .ok (.d (.tuple ((srt (l.map pl)).map pairD))) (S ++ [.dead]) := by
  have hl2 : (l.map pairD).length = l.length := List.length_map ..
  have e1 := r_is_tuple_of (n + 4) (l.map pairD) 0 60 S (by omega) (by omega)
  obtain ⟨ρ', q1, q2, q3⟩ := for_same (n := n + 5) (i := 1) (b := [.ex (.call 8 [.var 1])]) pairD S l [some (.d (.tuple (l.map pairD))), none, none] (fun x hx ρ' _ _ a3 => by
    have e := r_need_direction n x S (h x hx)
    refine xs_cons (ex_ex (ev_call (evs_1 (w := dp x) (σ1 := S) ?_) e)) xs_nil
    simp [a3, exs, ex, ev, evs, evo, evt, R.st, R.bind, varW, startE, Ci.putAt, wipeE, index, seqOf, ok, okO, okB, atD, L2.atI, L2.ixN, binW, bop, negW, isaW, isaD, compare2, cop2, ints2, onS, onB, thenS, SR.out, errS, prim1, prim2, twoInts, p2I, tupW, lstW, lstAs, dataOf, unpS, putMany, aim]) (by simp)
  have p0 : ρ'[0]? = some (some (.d (.tuple (l.map pairD)))) := q3 0 (by decide)
  obtain ⟨x1, x2, hρ⟩ : ∃ x1 x2, ρ' = [some (.d (.tuple (l.map pairD))), x1, x2] := by
    match ρ', q2, p0 with
    | [a, b, c], _, p0 => exact ⟨b, c, by rw [show a = _ from Option.some.inj p0]⟩
  subst hρ
  have hm : ∀ y ∈ l.map pl, Ok y ∧ Pl y := fun y hy => by
    obtain ⟨x, hx, rfl⟩ := List.mem_map.mp hy
    exact (h x hx).pl
  have ec := ev_comp (n := n + 5) (own := [2, 1]) (tg := .one 1) (it := .var 0) (e := .call 11 [.var 1]) (ρ := [some (.d (.tuple (l.map pairD))), x1, x2]) (σ := S) (σ1 := S) (w := .d (.tuple (l.map pairD))) (l := l) pairD (fun x => pairD (pl x)) (by simp [exs, ex, ev, evs, evo, evt, R.st, R.bind, varW, startE, Ci.putAt, wipeE, index, seqOf, ok, okO, okB, atD, L2.atI, L2.ixN, binW, bop, negW, isaW, isaD, compare2, cop2, ints2, onS, onB, thenS, SR.out, errS, prim1, prim2, twoInts, p2I, tupW, lstW, lstAs, dataOf, unpS, putMany, aim]) rfl (by omega) (fun x hx => by
    refine ⟨[some (.d (.tuple (l.map pairD))), some (dp x), none], rfl, ?_⟩
    exact ev_call (evs_1 (w := dp x) (σ1 := S) (by simp [exs, ex, ev, evs, evo, evt, R.st, R.bind, varW, startE, Ci.putAt, wipeE, index, seqOf, ok, okO, okB, atD, L2.atI, L2.ixN, binW, bop, negW, isaW, isaD, compare2, cop2, ints2, onS, onB, thenS, SR.out, errS, prim1, prim2, twoInts, p2I, tupW, lstW, lstAs, dataOf, unpS, putMany, aim])) (r_made_plain (n + 4) x S (h x hx)))
  have em : l.map (fun x => pairD (pl x)) = (l.map pl).map pairD := by rw [List.map_map]; rfl
  rw [em] at ec
  have ep := r_put_in_order (n + 1) (l.map pl) S hm (by rw [List.length_map]; omega)
  refine run_by t_in_order rfl (xs_cons (ρ1 := [some (.d (.tuple (l.map pairD))), none, none]) (σ1 := S) (ex_ite_f (σ1 := S) ?_ xs_nil) (xs_cons (ex_for (w := .d (.tuple (l.map pairD))) (σ1 := S) ?_ rfl q1) (xs_ret (ex_ret (ev_p1 (ev_call (evs_1 ec) ep) (r := .ok (.d (.tuple ((srt (l.map pl)).map pairD))) (S ++ [O.dead])) ?_))))) rfl
  · generalize l.map pairD = ll at *
    simp [e1, exs, ex, ev, evs, evo, evt, R.st, R.bind, varW, startE, Ci.putAt, wipeE, index, seqOf, ok, okO, okB, atD, L2.atI, L2.ixN, binW, bop, negW, isaW, isaD, compare2, cop2, ints2, onS, onB, thenS, SR.out, errS, prim1, prim2, twoInts, p2I, tupW, lstW, lstAs, dataOf, unpS, putMany, aim]
  · simp [exs, ex, ev, evs, evo, evt, R.st, R.bind, varW, startE, Ci.putAt, wipeE, index, seqOf, ok, okO, okB, atD, L2.atI, L2.ixN, binW, bop, negW, isaW, isaD, compare2, cop2, ints2, onS, onB, thenS, SR.out, errS, prim1, prim2, twoInts, p2I, tupW, lstW, lstAs, dataOf, unpS, putMany, aim]
  · simp [exs, ex, ev, evs, evo, evt, R.st, R.bind, varW, startE, Ci.putAt, wipeE, index, seqOf, ok, okO, okB, atD, L2.atI, L2.ixN, binW, bop, negW, isaW, isaD, compare2, cop2, ints2, onS, onB, thenS, SR.out, errS, prim1, prim2, twoInts, p2I, tupW, lstW, lstAs, dataOf, unpS, putMany, aim]
end K3

end
section
set_option linter.all false
set_option autoImplicit false
set_option maxRecDepth 10000
namespace K3
open PySem Ci Po
def dvT : C := .cmp .gt (.var 1) (.cst (.int 0))
def dvB : List S := [.par 0 1 (.var 1) (.bin .mod (.var 0) (.var 1))]
theorem dv_loop (n : Nat) (σ : List O) : ∀ (fuel : Nat) (a b : Int), 0 ≤ a → 0 ≤ b → b.toNat < fuel →
    whileL (fun ρ1 σ1 => EV n dvT ρ1 σ1) (fun ρ1 σ2 => XS n dvB ρ1 σ2) fuel [some (.d (.int a)), some (.d (.int b))] σ = .next [some (.d (.int (Int.gcd a b : Nat))), some (.d (.int 0))] σ
  | 0, a, b, _, _, h => by omega
  | f + 1, a, b, ha, hb, h => by
    rw [while_step]
    by_cases p : 0 < b
    · have e : a.fmod b = a % b := Int.fmod_eq_emod_of_nonneg a (by omega)
      have r0 : 0 ≤ a % b := Int.emod_nonneg a (by omega)
      have r1 : a % b < b := Int.emod_lt_of_pos a p
      have ih := dv_loop n σ f b (a % b) (by omega) r0 (by omega)
      rw [gcd_em, Int.gcd_comm] at ih
      have nb : ¬ b = 0 := by omega
      have t1 : EV n dvT [some (.d (.int a)), some (.d (.int b))] σ = .ok (.d (.bool true)) σ := by
        simp [dvT, p, exs, ex, ev, evs, evo, evt, R.st, R.bind, varW, startE, Ci.putAt, wipeE, index, seqOf, ok, okO, okB, atD, L2.atI, L2.ixN, binW, bop, negW, isaW, isaD, compare2, cop2, ints2, onS, onB, thenS, SR.out, errS, prim1, prim2, twoInts, p2I, tupW, lstW, lstAs, dataOf, unpS, putMany, aim]
      have t2 : XS n dvB [some (.d (.int a)), some (.d (.int b))] σ = .next [some (.d (.int b)), some (.d (.int (a % b)))] σ := by
        simp [dvB, e, nb, exs, ex, ev, evs, evo, evt, R.st, R.bind, varW, startE, Ci.putAt, wipeE, index, seqOf, ok, okO, okB, atD, L2.atI, L2.ixN, binW, bop, negW, isaW, isaD, compare2, cop2, ints2, onS, onB, thenS, SR.out, errS, prim1, prim2, twoInts, p2I, tupW, lstW, lstAs, dataOf, unpS, putMany, aim]
      rw [t1]
      dsimp only
      rw [t2]
      exact ih
    · have e : b = 0 := by omega
      subst e
      have t1 : EV n dvT [some (.d (.int a)), some (.d (.int 0))] σ = .ok (.d (.bool false)) σ := by
        simp [dvT, exs, ex, ev, evs, evo, evt, R.st, R.bind, varW, startE, Ci.putAt, wipeE, index, seqOf, ok, okO, okB, atD, L2.atI, L2.ixN, binW, bop, negW, isaW, isaD, compare2, cop2, ints2, onS, onB, thenS, SR.out, errS, prim1, prim2, twoInts, p2I, tupW, lstW, lstAs, dataOf, unpS, putMany, aim]
      rw [t1, Int.gcd_zero_right]
      have e : ((a.natAbs : Nat) : Int) = a := by omega
      rw [e]
theorem r_divisor (n : Nat) (a b : Int) (σ : List O) (ha : a.natAbs ≤ 999999) (hb : b.natAbs ≤ 999999) : run (n + 1) 24 [.d (.int a), .d (.int b)] σ = .ok (.d (.int (Int.gcd a b : Nat))) σ := by
  have e := dv_loop n σ 1000000 (a.natAbs : Nat) (b.natAbs : Nat) (by omega) (by omega) (by omega)
  have eg : Int.gcd (a.natAbs : Nat) (b.natAbs : Nat) = Int.gcd a b := rfl
  rw [eg] at e
  have e1 : (if -a > a then -a else a) = ((a.natAbs : Nat) : Int) := by split <;> omega
  have e2 : (if -b > b then -b else b) = ((b.natAbs : Nat) : Int) := by split <;> omega
  refine run_by t__law_divisor rfl (xs_cons (ρ1 := [some (.d (.int (a.natAbs : Nat))), some (.d (.int (b.natAbs : Nat)))]) (σ1 := σ) ?_ (xs_cons (ex_while (t := dvT) (b := dvB) e) (xs_ret (ex_ret (w := .d (.int (Int.gcd a b : Nat))) (σ1 := σ) ?_)))) rfl
  · have e1' : (if a < -a then -a else a) = ((a.natAbs : Nat) : Int) := e1
    have e2' : (if b < -b then -b else b) = ((b.natAbs : Nat) : Int) := e2
    simp [f__law_divisor, e1', e2', exs, ex, ev, evs, evo, evt, R.st, R.bind, varW, startE, Ci.putAt, wipeE, index, seqOf, ok, okO, okB, atD, L2.atI, L2.ixN, binW, bop, negW, isaW, isaD, compare2, cop2, ints2, onS, onB, thenS, SR.out, errS, prim1, prim2, twoInts, p2I, tupW, lstW, lstAs, dataOf, unpS, putMany, aim]
  · simp [exs, ex, ev, evs, evo, evt, R.st, R.bind, varW, startE, Ci.putAt, wipeE, index, seqOf, ok, okO, okB, atD, L2.atI, L2.ixN, binW, bop, negW, isaW, isaD, compare2, cop2, ints2, onS, onB, thenS, SR.out, errS, prim1, prim2, twoInts, p2I, tupW, lstW, lstAs, dataOf, unpS, putMany, aim]
theorem r_plainly (n : Nat) (p : Pt) (σ : List O) (h : Ok p ∨ (nz p ∧ p.1.natAbs ≤ 1000000 ∧ p.2.natAbs ≤ 1000000)) (hb : p.1.natAbs ≤ 999999 ∧ p.2.natAbs ≤ 999999) : run (n + 2) 28 [dp p] σ = .ok (dp (pl p)) σ := by
  have h0 : nz p := by
    rcases h with h | h
    · exact h.1
    · exact h.1
  have gp := g_pos h0
  have gl := g_le 999999 hb.1 hb.2
  have c1 : ¬ g p = 0 := by omega
  have c2 : (g p).natAbs < 1073741824 := by omega
  have e := r_divisor n p.1 p.2 σ hb.1 hb.2
  have eg : ((Int.gcd p.1 p.2 : Nat) : Int) = g p := rfl
  rw [eg] at e
  unfold dp pairD
  rw [run_of t__law_plainly rfl]
  simp [f__law_plainly, e, c1, c2, pl, exs, ex, ev, evs, evo, evt, R.st, R.bind, varW, startE, Ci.putAt, wipeE, index, seqOf, ok, okO, okB, atD, L2.atI, L2.ixN, binW, bop, negW, isaW, isaD, compare2, cop2, ints2, onS, onB, thenS, SR.out, errS, prim1, prim2, twoInts, p2I, tupW, lstW, lstAs, dataOf, unpS, putMany, aim]
theorem r_half (n : Nat) (p : Pt) (σ : List O) : run (n + 1) 29 [dp p] σ = .ok (.d (.int (if up p = true then 0 else 1))) σ := by
  unfold dp pairD
  rw [run_of t__law_half rfl]
  by_cases h1 : 0 < p.2
  · simp [f__law_half, up, h1, exs, ex, ev, evs, evo, evt, R.st, R.bind, varW, startE, Ci.putAt, wipeE, index, seqOf, ok, okO, okB, atD, L2.atI, L2.ixN, binW, bop, negW, isaW, isaD, compare2, cop2, ints2, onS, onB, thenS, SR.out, errS, prim1, prim2, twoInts, p2I, tupW, lstW, lstAs, dataOf, unpS, putMany, aim]
  · by_cases h2 : p.2 = 0
    · by_cases h3 : 0 < p.1
      · simp [f__law_half, up, h2, h3, eqD_int, exs, ex, ev, evs, evo, evt, R.st, R.bind, varW, startE, Ci.putAt, wipeE, index, seqOf, ok, okO, okB, atD, L2.atI, L2.ixN, binW, bop, negW, isaW, isaD, compare2, cop2, ints2, onS, onB, thenS, SR.out, errS, prim1, prim2, twoInts, p2I, tupW, lstW, lstAs, dataOf, unpS, putMany, aim]
      · simp [f__law_half, up, h2, h3, eqD_int, exs, ex, ev, evs, evo, evt, R.st, R.bind, varW, startE, Ci.putAt, wipeE, index, seqOf, ok, okO, okB, atD, L2.atI, L2.ixN, binW, bop, negW, isaW, isaD, compare2, cop2, ints2, onS, onB, thenS, SR.out, errS, prim1, prim2, twoInts, p2I, tupW, lstW, lstAs, dataOf, unpS, putMany, aim]
    · have e3 : (p.2 == 0) = false := by simpa using h2
      simp [f__law_half, up, h1, h2, e3, eqD_int, exs, ex, ev, evs, evo, evt, R.st, R.bind, varW, startE, Ci.putAt, wipeE, index, seqOf, ok, okO, okB, atD, L2.atI, L2.ixN, binW, bop, negW, isaW, isaD, compare2, cop2, ints2, onS, onB, thenS, SR.out, errS, prim1, prim2, twoInts, p2I, tupW, lstW, lstAs, dataOf, unpS, putMany, aim]
theorem r_ahead (n : Nat) (a b : Pt) (σ : List O) (h : Ok a) : run (n + 2) 30 [dp a, dp b] σ = .ok (.d (.bool (bef a b))) σ := by
  have s1 : smallI a.1 = true := smallI_of (by have := h.2.1; omega)
  have s2 : smallI a.2 = true := smallI_of (by have := h.2.2; omega)
  have e1 := r_half n a σ
  have e2 := r_half n b σ
  unfold dp pairD at e1 e2 ⊢
  rw [run_of t__law_ahead rfl]
  by_cases e : up a = up b
  · rw [e] at e1
    simp [f__law_ahead, e1, e2, eqD_int, e, bef, crs, s1, s2, exs, ex, ev, evs, evo, evt, R.st, R.bind, varW, startE, Ci.putAt, wipeE, index, seqOf, ok, okO, okB, atD, L2.atI, L2.ixN, binW, bop, negW, isaW, isaD, compare2, cop2, ints2, onS, onB, thenS, SR.out, errS, prim1, prim2, twoInts, p2I, tupW, lstW, lstAs, dataOf, unpS, putMany, aim]
  · cases h1 : up a <;> cases h2 : up b
    · exact absurd (h1.trans h2.symm) e
    · simp [f__law_ahead, h1, h2, e1, e2, eqD_int, bef, exs, ex, ev, evs, evo, evt, R.st, R.bind, varW, startE, Ci.putAt, wipeE, index, seqOf, ok, okO, okB, atD, L2.atI, L2.ixN, binW, bop, negW, isaW, isaD, compare2, cop2, ints2, onS, onB, thenS, SR.out, errS, prim1, prim2, twoInts, p2I, tupW, lstW, lstAs, dataOf, unpS, putMany, aim]
    · simp [f__law_ahead, h1, h2, e1, e2, eqD_int, bef, exs, ex, ev, evs, evo, evt, R.st, R.bind, varW, startE, Ci.putAt, wipeE, index, seqOf, ok, okO, okB, atD, L2.atI, L2.ixN, binW, bop, negW, isaW, isaD, compare2, cop2, ints2, onS, onB, thenS, SR.out, errS, prim1, prim2, twoInts, p2I, tupW, lstW, lstAs, dataOf, unpS, putMany, aim]
    · exact absurd (h1.trans h2.symm) e
theorem r_like (n : Nat) (d : PyData) (σ : List O) (h : bare d = true) (hs : isSeqD d = true) (hb : d.bulk ≤ 8000) (hd : d.depth ≤ 60) : run (n + 1) 25 [.d d, .d d] σ = .ok (.d (.bool true)) σ := by
  obtain ⟨e1, e2⟩ := repr_same h hs hb hd
  rw [run_of t__law_like rfl]
  simp [f__law_like, e1, e2, exs, ex, ev, evs, evo, evt, R.st, R.bind, varW, startE, Ci.putAt, wipeE, index, seqOf, ok, okO, okB, atD, L2.atI, L2.ixN, binW, bop, negW, isaW, isaD, compare2, cop2, ints2, onS, onB, thenS, SR.out, errS, prim1, prim2, twoInts, p2I, tupW, lstW, lstAs, dataOf, unpS, putMany, aim]
theorem comp_if {α : Type} {aimF : PyData → Option Ev} {t e : Ev → List O → R W} {σ : List O} (gi f : α → PyData) (b : α → Bool) : ∀ (l : List α) (acc : List PyData), (∀ x ∈ l, ∃ ρx, aimF (gi x) = some ρx ∧ t ρx σ = .ok (.d (.bool (b x))) σ ∧ e ρx σ = .ok (.d (f x)) σ) → compL aimF t e (l.map gi) acc σ = .ok (acc ++ (l.filter b).map f) σ
  | [], acc, _ => by simp [compL]
  | x :: l, acc, h => by
    obtain ⟨ρx, h1, h2, h3⟩ := h x List.mem_cons_self
    cases q : b x with
    | true =>
      rw [q] at h2
      have ih := comp_if gi f b l (acc ++ [f x]) fun y hy => h y (List.mem_cons_of_mem _ hy)
      simp only [List.map_cons, compL, h1, h2, h3]
      rw [ih, List.filter_cons_of_pos q]
      simp
    | false =>
      rw [q] at h2
      have ih := comp_if gi f b l acc fun y hy => h y (List.mem_cons_of_mem _ hy)
      simp only [List.map_cons, compL, h1, h2]
      rw [ih, List.filter_cons_of_neg (by rw [q]; simp)]
theorem ev_compIf {n : Nat} {α : Type} (gi f : α → PyData) (b : α → Bool) {own : List Nat} {tg : Tg} {it t e : C} {ρ : Ev} {σ σ1 : List O} {w : W} {l : List α} (h : EV n it ρ σ = .ok w σ1) (hw : walkOf w = some (l.map gi)) (hl : l.length ≤ 100000)
    (he : ∀ x ∈ l, ∃ ρx, aim tg (gi x) (wipeE ρ own) = some ρx ∧ EV n t ρx σ1 = .ok (.d (.bool (b x))) σ1 ∧ EV n e ρx σ1 = .ok (.d (f x)) σ1) :
    EV n (.comp false own tg it (some t) e) ρ σ = .ok (.d (.list ((l.filter b).map f))) σ1 := by
  have h : ev (run n) (lamOf gcK tab (run n)) (fun _ => .stuck) it ρ σ = .ok w σ1 := h
  have hl2 : (l.map gi).length ≤ 100000 := by rw [List.length_map]; exact hl
  have c := comp_if (aimF := fun x => aim tg x (wipeE ρ own)) (t := fun ρ1 S2 => EV n t ρ1 S2) (e := fun ρ1 S2 => EV n e ρ1 S2) (σ := σ1) gi f b l [] he
  unfold EV at c
  simp only [EV, ev, h, R.bind, overW, hw, hl2, if_true, evt, c, lstAs, ok, List.nil_append]
  rfl
def soB : List S := [.ite (.cmp .notin (.var 2) (.var 1)) [.set 3 (.p1 .len (.comp false [4, 5] (.one 5) (.var 1) (some (.call 30 [(.var 5), (.var 2)])) (.cst (.int 1)))), .set 1 (.bin .add (.bin .add (.slc (.var 1) none (some (.var 3))) (.lst false [(.var 2)])) (.slc (.var 1) (some (.var 3)) none))] []]
theorem cut_lo (xs : List PyData) (c : Nat) (h : c ≤ xs.length) : cutD xs none (some (c : Nat)) = xs.take c := by
  unfold cutD
  rw [HT.sIx_nat]
  simp only [HT.sIx_none, List.drop_zero, Nat.sub_zero]
  rw [Nat.min_eq_left h]
theorem cut_hi (xs : List PyData) (c : Nat) (h : c ≤ xs.length) : cutD xs (some (c : Nat)) none = xs.drop c := by
  unfold cutD
  rw [HT.sIx_nat]
  simp only [HT.sIx_none]
  rw [Nat.min_eq_left h]
  exact List.take_of_length_le (by simp)
theorem cnt_le (x : Pt) (l : List Pt) : cnt x l ≤ l.length := by
  unfold cnt
  exact List.length_filter_le ..
theorem r_so1 (n : Nat) (x : Pt) (l : List Pt) (a z3 z4 z5 : Option W) (σ : List O) (hl : ∀ y ∈ l, Ok y) (hn : l.length ≤ 1000) :
    ∃ z', XS (n + 2) soB [a, some (.d (.list (l.map pairD))), some (dp x), z3, z4, z5] σ = .next [a, some (.d (.list ((ins l x).map pairD))), some (dp x), z', z4, z5] σ := by
  have hin := inD_pairs x l
  unfold ins
  by_cases m : x ∈ l
  · rw [if_pos m]
    rw [decide_eq_true m] at hin
    refine ⟨z3, xs_cons (ex_ite_f (σ1 := σ) ?_ xs_nil) xs_nil⟩
    generalize l.map pairD = ll at *
    simp [hin, exs, ex, ev, evs, evo, evt, R.st, R.bind, varW, startE, Ci.putAt, wipeE, index, seqOf, ok, okO, okB, atD, L2.atI, L2.ixN, binW, bop, negW, isaW, isaD, compare2, cop2, ints2, onS, onB, thenS, SR.out, errS, prim1, prim2, twoInts, p2I, tupW, lstW, lstAs, dataOf, unpS, putMany, aim]
  · rw [if_neg m]
    rw [decide_eq_false m] at hin
    have ec := ev_compIf (n := n + 2) (own := [4, 5]) (tg := .one 5) (it := .var 1) (t := .call 30 [(.var 5), (.var 2)]) (e := .cst (.int 1)) (ρ := [a, some (.d (.list (l.map pairD))), some (dp x), z3, z4, z5]) (σ := σ) (σ1 := σ) (w := .d (.list (l.map pairD))) (l := l) pairD (fun _ => PyData.int 1) (fun y => bef y x) (by simp [exs, ex, ev, evs, evo, evt, R.st, R.bind, varW, startE, Ci.putAt, wipeE, index, seqOf, ok, okO, okB, atD, L2.atI, L2.ixN, binW, bop, negW, isaW, isaD, compare2, cop2, ints2, onS, onB, thenS, SR.out, errS, prim1, prim2, twoInts, p2I, tupW, lstW, lstAs, dataOf, unpS, putMany, aim]) rfl (by omega) (fun y hy => by
      refine ⟨[a, some (.d (.list (l.map pairD))), some (dp x), z3, none, some (dp y)], rfl, ?_, ?_⟩
      · have e := r_ahead n y x σ (hl y hy)
        simp [e, exs, ex, ev, evs, evo, evt, R.st, R.bind, varW, startE, Ci.putAt, wipeE, index, seqOf, ok, okO, okB, atD, L2.atI, L2.ixN, binW, bop, negW, isaW, isaD, compare2, cop2, ints2, onS, onB, thenS, SR.out, errS, prim1, prim2, twoInts, p2I, tupW, lstW, lstAs, dataOf, unpS, putMany, aim]
      · simp [exs, ex, ev, evs, evo, evt, R.st, R.bind, varW, startE, Ci.putAt, wipeE, index, seqOf, ok, okO, okB, atD, L2.atI, L2.ixN, binW, bop, negW, isaW, isaD, compare2, cop2, ints2, onS, onB, thenS, SR.out, errS, prim1, prim2, twoInts, p2I, tupW, lstW, lstAs, dataOf, unpS, putMany, aim])
    have lc : ((l.filter fun y => bef y x).map fun _ => PyData.int 1).length = cnt x l := by
      rw [List.length_map]
      rfl
    have c0 := cnt_le x l
    have hl2 : (l.map pairD).length = l.length := List.length_map ..
    have pm := put_map x l (cnt x l) rfl
    have k1 := cut_lo (l.map pairD) (cnt x l) (by omega)
    have k2 := cut_hi (l.map pairD) (cnt x l) (by omega)
    generalize (l.filter fun y => bef y x).map (fun _ => PyData.int 1) = lf at *
    refine ⟨some (.d (.int (cnt x l : Nat))), xs_cons (ex_ite_t (σ1 := σ) ?_ (xs_cons (ex_set (w := .d (.int (cnt x l : Nat))) (σ1 := σ) (ev_p1 ec ?_)) (xs_cons (ex_set (w := .d (.list ((put x l).map pairD))) (σ1 := σ) ?_) xs_nil))) xs_nil⟩
    · generalize l.map pairD = ll at *
      simp [hin, exs, ex, ev, evs, evo, evt, R.st, R.bind, varW, startE, Ci.putAt, wipeE, index, seqOf, ok, okO, okB, atD, L2.atI, L2.ixN, binW, bop, negW, isaW, isaD, compare2, cop2, ints2, onS, onB, thenS, SR.out, errS, prim1, prim2, twoInts, p2I, tupW, lstW, lstAs, dataOf, unpS, putMany, aim]
    · simp [lc, exs, ex, ev, evs, evo, evt, R.st, R.bind, varW, startE, Ci.putAt, wipeE, index, seqOf, ok, okO, okB, atD, L2.atI, L2.ixN, binW, bop, negW, isaW, isaD, compare2, cop2, ints2, onS, onB, thenS, SR.out, errS, prim1, prim2, twoInts, p2I, tupW, lstW, lstAs, dataOf, unpS, putMany, aim]
    · rw [← pm]
      generalize l.map pairD = ll at *
      have h3 : (ll.take (cnt x l)).length + [pairD x].length ≤ 100000 := by simp; omega
      have h4 : (ll.take (cnt x l) ++ [pairD x]).length + (ll.drop (cnt x l)).length ≤ 100000 := by simp; omega
      have e1 : ev (run (n + 2)) (lamOf gcK tab (run (n + 2))) (fun _ => R.stuck) (.slc (.var 1) none (some (.var 3))) [a, some (.d (.list ll)), some (dp x), some (.d (.int (cnt x l : Nat))), z4, z5] σ = .ok (.d (.list (ll.take (cnt x l)))) σ := by
        rw [← k1]
        simp [sliceW, toInt, exs, ex, ev, evs, evo, evt, R.st, R.bind, varW, startE, Ci.putAt, wipeE, index, seqOf, ok, okO, okB, atD, L2.atI, L2.ixN, binW, bop, negW, isaW, isaD, compare2, cop2, ints2, onS, onB, thenS, SR.out, errS, prim1, prim2, twoInts, p2I, tupW, lstW, lstAs, dataOf, unpS, putMany, aim]
      have e2 : ev (run (n + 2)) (lamOf gcK tab (run (n + 2))) (fun _ => R.stuck) (.slc (.var 1) (some (.var 3)) none) [a, some (.d (.list ll)), some (dp x), some (.d (.int (cnt x l : Nat))), z4, z5] σ = .ok (.d (.list (ll.drop (cnt x l)))) σ := by
        rw [← k2]
        simp [sliceW, toInt, exs, ex, ev, evs, evo, evt, R.st, R.bind, varW, startE, Ci.putAt, wipeE, index, seqOf, ok, okO, okB, atD, L2.atI, L2.ixN, binW, bop, negW, isaW, isaD, compare2, cop2, ints2, onS, onB, thenS, SR.out, errS, prim1, prim2, twoInts, p2I, tupW, lstW, lstAs, dataOf, unpS, putMany, aim]
      have e3 : ev (run (n + 2)) (lamOf gcK tab (run (n + 2))) (fun _ => R.stuck) (.lst false [.var 2]) [a, some (.d (.list ll)), some (dp x), some (.d (.int (cnt x l : Nat))), z4, z5] σ = .ok (.d (.list [pairD x])) σ := by
        simp [exs, ex, ev, evs, evo, evt, R.st, R.bind, varW, startE, Ci.putAt, wipeE, index, seqOf, ok, okO, okB, atD, L2.atI, L2.ixN, binW, bop, negW, isaW, isaD, compare2, cop2, ints2, onS, onB, thenS, SR.out, errS, prim1, prim2, twoInts, p2I, tupW, lstW, lstAs, dataOf, unpS, putMany, aim]
      show ev _ _ _ (.bin .add (.bin .add (.slc (.var 1) none (some (.var 3))) (.lst false [(.var 2)])) (.slc (.var 1) (some (.var 3)) none)) [a, some (.d (.list ll)), some (dp x), some (.d (.int (cnt x l : Nat))), z4, z5] σ = _
      simp only [ev.eq_6, e1, e2, e3, R.bind, binW, bop, if_pos h3, if_pos h4, okO]
      simp
theorem r_soAll (n : Nat) (a z4 z5 : Option W) (σ : List O) : ∀ (xs l : List Pt) (z2 z3 : Option W), (∀ y ∈ xs, Ok y ∧ Pl y) → (∀ y ∈ l, Ok y) → l.length + xs.length ≤ 900 →
    ∃ z2' z3', forL (aim (.one 2)) (fun ρ1 σ2 => XS (n + 2) soB ρ1 σ2) (xs.map pairD) [a, some (.d (.list (l.map pairD))), z2, z3, z4, z5] σ = .next [a, some (.d (.list ((xs.foldl ins l).map pairD))), z2', z3', z4, z5] σ
  | [], l, z2, z3, _, _, _ => ⟨z2, z3, rfl⟩
  | x :: xs, l, z2, z3, h1, h2, h3 => by
    have h3' : l.length + xs.length + 1 ≤ 900 := by
      have : (x :: xs).length = xs.length + 1 := rfl
      omega
    obtain ⟨z', e1⟩ := r_so1 n x l a z3 z4 z5 σ h2 (by omega)
    have q : (ins l x).length ≤ l.length + 1 := by
      unfold ins put
      split
      · omega
      · simp
        omega
    obtain ⟨y2, y3, e⟩ := r_soAll n a z4 z5 σ xs (ins l x) (some (dp x)) z' (fun y hy => h1 y (List.mem_cons_of_mem _ hy)) (fun y hy => by
      unfold ins at hy
      split at hy
      · exact h2 y hy
      · rcases (mem_put x y l).mp hy with r | r
        · rw [r]; exact (h1 x List.mem_cons_self).1
        · exact h2 y r) (by omega)
    refine ⟨y2, y3, ?_⟩
    have ea : aim (.one 2) (pairD x) [a, some (.d (.list (l.map pairD))), z2, z3, z4, z5] = some [a, some (.d (.list (l.map pairD))), some (dp x), z3, z4, z5] := rfl
    simp only [List.map_cons, forL, ea, e1]
    exact e
theorem r_sorted (n : Nat) (l : List Pt) (σ : List O) (h : ∀ y ∈ l, Ok y) (hl : l.length ≤ 60) : run (n + 4) 31 [.d (.tuple (l.map pairD))] σ = .ok (.d (.tuple ((srt (l.map pl)).map pairD))) σ := by
  have hl2 : (l.map pairD).length = l.length := List.length_map ..
  have ec := ev_comp (n := n + 3) (own := [4, 2]) (tg := .one 2) (it := .var 0) (e := .call 28 [(.var 2)]) (ρ := [some (.d (.tuple (l.map pairD))), some (.d (.list [])), none, none, none, none]) (σ := σ) (σ1 := σ) (w := .d (.tuple (l.map pairD))) (l := l) pairD (fun x => pairD (pl x)) (by simp [exs, ex, ev, evs, evo, evt, R.st, R.bind, varW, startE, Ci.putAt, wipeE, index, seqOf, ok, okO, okB, atD, L2.atI, L2.ixN, binW, bop, negW, isaW, isaD, compare2, cop2, ints2, onS, onB, thenS, SR.out, errS, prim1, prim2, twoInts, p2I, tupW, lstW, lstAs, dataOf, unpS, putMany, aim]) rfl (by omega) (fun x hx => by
    refine ⟨[some (.d (.tuple (l.map pairD))), some (.d (.list [])), some (dp x), none, none, none], rfl, ?_⟩
    have q := h x hx
    exact ev_call (evs_1 (w := dp x) (σ1 := σ) (by simp [exs, ex, ev, evs, evo, evt, R.st, R.bind, varW, startE, Ci.putAt, wipeE, index, seqOf, ok, okO, okB, atD, L2.atI, L2.ixN, binW, bop, negW, isaW, isaD, compare2, cop2, ints2, onS, onB, thenS, SR.out, errS, prim1, prim2, twoInts, p2I, tupW, lstW, lstAs, dataOf, unpS, putMany, aim])) (r_plainly (n + 1) x σ (.inl q) ⟨by have := q.2.1; omega, by have := q.2.2; omega⟩))
  have em : l.map (fun x => pairD (pl x)) = (l.map pl).map pairD := by rw [List.map_map]; rfl
  rw [em] at ec
  have hm : ∀ y ∈ l.map pl, Ok y ∧ Pl y := fun y hy => by
    obtain ⟨x, hx, rfl⟩ := List.mem_map.mp hy
    exact (h x hx).pl
  obtain ⟨z2, z3, e⟩ := r_soAll (n + 1) (some (.d (.tuple (l.map pairD)))) none none σ (l.map pl) [] none none hm (fun y hy => by cases hy) (by rw [List.length_map]; simp; omega)
  refine run_by t__law_sorted rfl (xs_cons (ρ1 := [some (.d (.tuple (l.map pairD))), some (.d (.list [])), none, none, none, none]) (σ1 := σ) ?_ (xs_cons (ex_for (b := soB) (xs := (l.map pl).map pairD) ec rfl e) (xs_ret (ex_ret (w := .d (.tuple ((srt (l.map pl)).map pairD))) (σ1 := σ) ?_)))) rfl
  · generalize l.map pairD = ll at *
    simp [f__law_sorted, exs, ex, ev, evs, evo, evt, R.st, R.bind, varW, startE, Ci.putAt, wipeE, index, seqOf, ok, okO, okB, atD, L2.atI, L2.ixN, binW, bop, negW, isaW, isaD, compare2, cop2, ints2, onS, onB, thenS, SR.out, errS, prim1, prim2, twoInts, p2I, tupW, lstW, lstAs, dataOf, unpS, putMany, aim]
  · show EV (n + 3) _ [_, some (.d (.list ((srt (l.map pl)).map pairD))), _, _, _, _] σ = _
    generalize (srt (l.map pl)).map pairD = lr at *
    simp [exs, ex, ev, evs, evo, evt, R.st, R.bind, varW, startE, Ci.putAt, wipeE, index, seqOf, ok, okO, okB, atD, L2.atI, L2.ixN, binW, bop, negW, isaW, isaD, compare2, cop2, ints2, onS, onB, thenS, SR.out, errS, prim1, prim2, twoInts, p2I, tupW, lstW, lstAs, dataOf, unpS, putMany, aim]
end K3

end
section
set_option linter.all false
set_option autoImplicit false
set_option maxRecDepth 10000
namespace K3
open PySem Ci Po
def mixv (c k : Int) : Int := (((c.fmod 2147483647 * (48271 + 2 * k * k) + 69621 * k + 11).fmod 2147483647) * 69621).fmod 2147483629
theorem mixv_r (c k : Int) : 0 ≤ mixv c k ∧ mixv c k < 2147483629 := by
  unfold mixv
  rw [Int.fmod_eq_emod_of_nonneg _ (by omega)]
  omega
theorem r_mixed (n : Nat) (c k : Int) (σ : List O) (h : k.natAbs ≤ 1000000) : run (n + 1) 20 [.d (.int c), .d (.int k)] σ = .ok (.d (.int (mixv c k))) σ := by
  have e1 : smallI (c.fmod 2147483647) = true := by
    have : 0 ≤ c.fmod 2147483647 ∧ c.fmod 2147483647 < 2147483647 := by
      rw [Int.fmod_eq_emod_of_nonneg _ (by omega)]
      omega
    exact smallI_of (by omega)
  have e2 : smallI k = true := smallI_of (by omega)
  have e3 : smallI 2 = true := by decide
  have e4 : smallI 69621 = true := by decide
  rw [run_of t__law_mixed rfl]
  simp [f__law_mixed, e1, e2, e3, e4, mixv, exs, ex, ev, evs, evo, evt, R.st, R.bind, varW, startE, Ci.putAt, wipeE, index, seqOf, ok, okO, okB, atD, L2.atI, L2.ixN, binW, bop, negW, isaW, isaD, compare2, cop2, ints2, onS, onB, thenS, SR.out, errS, prim1, prim2, twoInts, p2I, tupW, lstW, lstAs, dataOf, unpS, putMany, aim]
def kC : L2.Key := .inr "cells"
def kL : L2.Key := .inr "lefts"
def kA : L2.Key := .inr "at"
def dk (cells : List Int) (at_ : Int) : O := .dK [(kC, .d (.list (cells.map .int))), (kL, .ref 0), (kA, .d (.int at_))]
def St (cells lefts : List Int) (at_ : Int) (rest : List O) : List O := .lst (lefts.map .int) :: dk cells at_ :: rest
section
variable {n : Nat} {ρ : Ev} {cells lefts : List Int} {at_ : Int} {rest : List O}
theorem g_at {a b c : W} : getK [(kC, a), (kL, b), (kA, c)] kA = some c := rfl
theorem g_c {a b c : W} : getK [(kC, a), (kL, b), (kA, c)] kC = some a := rfl
theorem g_l {a b c : W} : getK [(kC, a), (kL, b), (kA, c)] kL = some b := rfl
theorem s_at {a b c d : W} : setK [(kC, a), (kL, b), (kA, c)] kA d = [(kC, a), (kL, b), (kA, d)] := rfl
theorem dg_at : dgetW (.ref 1) (.d (.str "at")) (St cells lefts at_ rest) = .ok (.d (.int at_)) (St cells lefts at_ rest) := by
  show (match getK [(kC, W.d (.list (cells.map .int))), (kL, .ref 0), (kA, .d (.int at_))] kA with
    | some w => R.ok w (St cells lefts at_ rest)
    | none => .stuck) = _
  rw [g_at]
theorem dg_c : dgetW (.ref 1) (.d (.str "cells")) (St cells lefts at_ rest) = .ok (.d (.list (cells.map .int))) (St cells lefts at_ rest) := by
  show (match getK [(kC, W.d (.list (cells.map .int))), (kL, .ref 0), (kA, .d (.int at_))] kC with
    | some w => R.ok w (St cells lefts at_ rest)
    | none => .stuck) = _
  rw [g_c]
theorem dg_l : dgetW (.ref 1) (.d (.str "lefts")) (St cells lefts at_ rest) = .ok (.ref 0) (St cells lefts at_ rest) := by
  show (match getK [(kC, W.d (.list (cells.map .int))), (kL, .ref 0), (kA, .d (.int at_))] kL with
    | some w => R.ok w (St cells lefts at_ rest)
    | none => .stuck) = _
  rw [g_l]
theorem pt_at (b : Int) : putK (.ref 1) (.d (.str "at")) (.d (.int b)) (St cells lefts at_ rest) = some (St cells lefts b rest) := rfl
end
theorem atI_ints (l : List Int) (i : Int) (h0 : 0 ≤ i) (h1 : i < (l.length : Nat)) : ∃ v, L2.atI (l.map PyData.int) i = some (.int v) ∧ L2.ixN (l.map PyData.int).length i = some i.toNat := by
  have hl : (l.map PyData.int).length = l.length := List.length_map ..
  have e : L2.ixN (l.map PyData.int).length i = some i.toNat := by
    unfold L2.ixN
    rw [if_pos h0, if_pos (by rw [hl]; exact h1)]
  have lt : i.toNat < l.length := by omega
  refine ⟨l[i.toNat], ?_, e⟩
  unfold L2.atI
  rw [e]
  show (l.map PyData.int)[i.toNat]? = _
  rw [List.getElem?_map, List.getElem?_eq_getElem lt]
  rfl
theorem set_ints (l : List Int) (i : Nat) (v : Int) : (l.map PyData.int).set i (.int v) = (l.set i v).map PyData.int := by
  rw [List.map_set]
theorem put_left (cells lefts : List Int) (at_ p v : Int) (rest : List O) (h0 : 0 ≤ p) (h1 : p < (lefts.length : Nat)) : putIx (.ref 0) (.d (.int p)) (.d (.int v)) (St cells lefts at_ rest) = some (St cells (lefts.set p.toNat v) at_ rest) := by
  obtain ⟨_, _, e⟩ := atI_ints lefts p h0 h1
  show (match L2.ixN (lefts.map PyData.int).length p with
    | some j => some ((St cells lefts at_ rest).set 0 (O.lst ((lefts.map PyData.int).set j (.int v))))
    | none => none) = _
  rw [e]
  show some ((St cells lefts at_ rest).set 0 (O.lst ((lefts.map PyData.int).set p.toNat (.int v)))) = _
  rw [set_ints]
  rfl
theorem r_draw (n : Nat) (cells lefts : List Int) (at_ limit : Int) (rest : List O) (hc : 0 < cells.length) (hc2 : cells.length ≤ 1000) (hl : lefts.length = cells.length) (ha : 0 ≤ at_) (ha2 : at_ ≤ 100000) (h0 : 0 < limit) (h1 : limit ≤ 1000000) :
    ∃ v lefts', run (n + 2) 22 [.ref 1, .d (.int limit)] (St cells lefts at_ rest) = .ok (.d (.int v)) (St cells lefts' (at_ + 1) rest) ∧ 0 ≤ v ∧ v < limit ∧ lefts'.length = cells.length := by
  have fm : ∀ x : Int, 0 ≤ x.fmod limit ∧ x.fmod limit < limit := fun x => by
    rw [Int.fmod_eq_emod_of_nonneg _ (by omega)]
    exact ⟨Int.emod_nonneg _ (by omega), Int.emod_lt_of_pos _ h0⟩
  have pl0 : 0 ≤ at_.fmod (cells.length : Nat) ∧ at_.fmod (cells.length : Nat) < (cells.length : Nat) := by
    rw [Int.fmod_eq_emod_of_nonneg _ (by omega)]
    exact ⟨Int.emod_nonneg _ (by omega), Int.emod_lt_of_pos _ (by omega)⟩
  have lc : (cells.map PyData.int).length = cells.length := List.length_map ..
  have nz : ¬ ((cells.length : Nat) : Int) = 0 := by omega
  have nl : ¬ limit = 0 := by omega
  have nl2 : limit.natAbs < 1073741824 := by omega
  obtain ⟨lv, q1, q2⟩ := atI_ints lefts (at_.fmod (cells.length : Nat)) pl0.1 (by rw [hl]; exact pl0.2)
  obtain ⟨cv, q3, q4⟩ := atI_ints cells (at_.fmod (cells.length : Nat)) pl0.1 pl0.2
  have st1 : EX (n + 1) (.set 2 (.dget (.var 0) (.cst (.str "at")))) [some (.ref 1), some (.d (.int limit)), none, none, none, none] (St cells lefts at_ rest) = .next [some (.ref 1), some (.d (.int limit)), some (.d (.int at_)), none, none, none] (St cells lefts at_ rest) := by
    simp [dg_at, exs, ex, ev, evs, evo, evt, R.st, R.bind, varW, startE, Ci.putAt, wipeE, index, seqOf, ok, okO, okB, atD, L2.atI, L2.ixN, binW, bop, negW, isaW, isaD, compare2, cop2, ints2, onS, onB, thenS, SR.out, errS, prim1, prim2, twoInts, p2I, tupW, lstW, lstAs, dataOf, unpS, putMany, aim]
  have st2 : EX (n + 1) (.dput (.var 0) (.cst (.str "at")) (.bin .add (.var 2) (.cst (.int 1)))) [some (.ref 1), some (.d (.int limit)), some (.d (.int at_)), none, none, none] (St cells lefts at_ rest) = .next [some (.ref 1), some (.d (.int limit)), some (.d (.int at_)), none, none, none] (St cells lefts (at_ + 1) rest) := by
    simp [pt_at, storeS, exs, ex, ev, evs, evo, evt, R.st, R.bind, varW, startE, Ci.putAt, wipeE, index, seqOf, ok, okO, okB, atD, L2.atI, L2.ixN, binW, bop, negW, isaW, isaD, compare2, cop2, ints2, onS, onB, thenS, SR.out, errS, prim1, prim2, twoInts, p2I, tupW, lstW, lstAs, dataOf, unpS, putMany, aim]
  generalize hp : at_.fmod (cells.length : Nat) = p at *
  have st3 : EX (n + 1) (.set 3 (.bin .mod (.p1 .int_ (.var 2)) (.p1 .len (.dget (.var 0) (.cst (.str "cells")))))) [some (.ref 1), some (.d (.int limit)), some (.d (.int at_)), none, none, none] (St cells lefts (at_ + 1) rest) = .next [some (.ref 1), some (.d (.int limit)), some (.d (.int at_)), some (.d (.int p)), none, none] (St cells lefts (at_ + 1) rest) := by
    have e := dg_c (cells := cells) (lefts := lefts) (at_ := at_ + 1) (rest := rest)
    generalize St cells lefts (at_ + 1) rest = SS at *
    have cn : ¬ cells = [] := fun z => by rw [z] at hc; exact absurd hc (by simp)
    simp [e, lc, nz, cn, hp, exs, ex, ev, evs, evo, evt, R.st, R.bind, varW, startE, Ci.putAt, wipeE, index, seqOf, ok, okO, okB, atD, L2.atI, L2.ixN, binW, bop, negW, isaW, isaD, compare2, cop2, ints2, onS, onB, thenS, SR.out, errS, prim1, prim2, twoInts, p2I, tupW, lstW, lstAs, dataOf, unpS, putMany, aim]
  have ix0 : index (.ref 0) (.d (.int p)) (St cells lefts (at_ + 1) rest) = .ok (.d (.int lv)) (St cells lefts (at_ + 1) rest) := by
    show okO (L2.atI (lefts.map PyData.int) p) _ = _
    rw [q1]
    rfl
  have ix1 : index (.d (.list (cells.map PyData.int))) (.d (.int p)) (St cells lefts (at_ + 1) rest) = .ok (.d (.int cv)) (St cells lefts (at_ + 1) rest) := by
    show okO (L2.atI (cells.map PyData.int) p) _ = _
    rw [q3]
    rfl
  have st4 : EX (n + 1) (.set 4 (.idx (.dget (.var 0) (.cst (.str "lefts"))) (.var 3))) [some (.ref 1), some (.d (.int limit)), some (.d (.int at_)), some (.d (.int p)), none, none] (St cells lefts (at_ + 1) rest) = .next [some (.ref 1), some (.d (.int limit)), some (.d (.int at_)), some (.d (.int p)), some (.d (.int lv)), none] (St cells lefts (at_ + 1) rest) := by
    simp only [exs, ex, ev, R.st, R.bind, varW, Ci.putAt, dg_l, ix0, List.getElem?_cons_zero, List.getElem?_cons_succ, List.set_cons_zero, List.set_cons_succ, ok]
  by_cases c : 0 < lv
  · have pf := put_left cells lefts (at_ + 1) p (lv.fdiv limit) rest pl0.1 (by rw [hl]; exact pl0.2)
    refine ⟨lv.fmod limit, lefts.set p.toNat (lv.fdiv limit), ?_, (fm lv).1, (fm lv).2, by simp [hl]⟩
    refine run_by t__law_draw rfl (xs_cons st1 (xs_cons st2 (xs_cons st3 (xs_cons st4 (xs_ret (ex_ite_t (σ1 := St cells lefts (at_ + 1) rest) ?_ (xs_cons (ρ1 := [some (.ref 1), some (.d (.int limit)), some (.d (.int at_)), some (.d (.int p)), some (.d (.int lv)), none]) (σ1 := St cells (lefts.set p.toNat (lv.fdiv limit)) (at_ + 1) rest) ?_ (xs_ret (ex_ret (w := .d (.int (lv.fmod limit))) (σ1 := St cells (lefts.set p.toNat (lv.fdiv limit)) (at_ + 1) rest) ?_)))))))))  rfl
    · simp [c, exs, ex, ev, evs, evo, evt, R.st, R.bind, varW, startE, Ci.putAt, wipeE, index, seqOf, ok, okO, okB, atD, L2.atI, L2.ixN, binW, bop, negW, isaW, isaD, compare2, cop2, ints2, onS, onB, thenS, SR.out, errS, prim1, prim2, twoInts, p2I, tupW, lstW, lstAs, dataOf, unpS, putMany, aim]
    · simp only [exs, ex, ev, R.st, R.bind, varW, dg_l, List.getElem?_cons_zero, List.getElem?_cons_succ, ok, binW, bop, nl, nl2, ne_eq, not_false_iff, and_self, if_true, okO, pf, storeS]
    · simp [nl, exs, ex, ev, evs, evo, evt, R.st, R.bind, varW, startE, Ci.putAt, wipeE, index, seqOf, ok, okO, okB, atD, L2.atI, L2.ixN, binW, bop, negW, isaW, isaD, compare2, cop2, ints2, onS, onB, thenS, SR.out, errS, prim1, prim2, twoInts, p2I, tupW, lstW, lstAs, dataOf, unpS, putMany, aim]
  · have m1 := r_mixed n cv at_ (St cells lefts (at_ + 1) rest) (by omega)
    have m2 := r_mixed n (mixv cv at_) (40 + at_) (St cells lefts (at_ + 1) rest) (by omega)
    have b2 := mixv_r (mixv cv at_) (40 + at_)
    generalize hm : mixv (mixv cv at_) (40 + at_) = mm at *
    have m3 := r_mixed n mm (7 + at_) (St cells lefts (at_ + 1) rest) (by omega)
    have b3 := mixv_r mm (7 + at_)
    generalize hm3 : mixv mm (7 + at_) = m4 at *
    have sm : smallI 2147483647 = true := by decide
    refine ⟨((mm * 2147483647 + m4).fdiv 64).fmod limit, lefts, ?_, (fm _).1, (fm _).2, hl⟩
    refine run_by t__law_draw rfl (xs_cons st1 (xs_cons st2 (xs_cons st3 (xs_cons st4 (xs_cons (ex_ite_f (σ1 := St cells lefts (at_ + 1) rest) ?_ xs_nil) (xs_cons (ρ1 := [some (.ref 1), some (.d (.int limit)), some (.d (.int at_)), some (.d (.int p)), some (.d (.int lv)), some (.d (.int mm))]) (σ1 := St cells lefts (at_ + 1) rest) ?_ (xs_ret (ex_ret (w := .d (.int (((mm * 2147483647 + m4).fdiv 64).fmod limit))) (σ1 := St cells lefts (at_ + 1) rest) ?_)))))))) rfl
    · simp [c, exs, ex, ev, evs, evo, evt, R.st, R.bind, varW, startE, Ci.putAt, wipeE, index, seqOf, ok, okO, okB, atD, L2.atI, L2.ixN, binW, bop, negW, isaW, isaD, compare2, cop2, ints2, onS, onB, thenS, SR.out, errS, prim1, prim2, twoInts, p2I, tupW, lstW, lstAs, dataOf, unpS, putMany, aim]
    · simp only [exs, ex, ev, evs, R.st, R.bind, varW, dg_c, ix1, List.getElem?_cons_zero, List.getElem?_cons_succ, ok, binW, bop, m1, m2, okO, Ci.putAt, List.set_cons_zero, List.set_cons_succ]
    · simp [m3, sm, nl, exs, ex, ev, evs, evo, evt, R.st, R.bind, varW, startE, Ci.putAt, wipeE, index, seqOf, ok, okO, okB, atD, L2.atI, L2.ixN, binW, bop, negW, isaW, isaD, compare2, cop2, ints2, onS, onB, thenS, SR.out, errS, prim1, prim2, twoInts, p2I, tupW, lstW, lstAs, dataOf, unpS, putMany, aim]
end K3

end
section
set_option linter.all false
set_option autoImplicit false
set_option maxRecDepth 10000
namespace K3
open PySem Ci Po
def Inv (m : Int) (S : List O) : Prop := ∃ (cells lefts : List Int) (at_ : Int) (rest : List O), S = St cells lefts at_ rest ∧ 0 < cells.length ∧ cells.length ≤ 1000 ∧ lefts.length = cells.length ∧ 0 ≤ at_ ∧ at_ ≤ m
theorem Inv.le {m k : Int} {S : List O} (h : Inv m S) (q : m ≤ k) : Inv k S := by
  obtain ⟨c, l, a, r, h1, h2, h3, h4, h5, h6⟩ := h
  exact ⟨c, l, a, r, h1, h2, h3, h4, h5, by omega⟩
theorem Inv.more {m : Int} {S : List O} (h : Inv m S) (o : O) : Inv m (S ++ [o]) := by
  obtain ⟨c, l, a, r, h1, h2⟩ := h
  exact ⟨c, l, a, r ++ [o], by rw [h1]; rfl, h2⟩
theorem i_draw (n : Nat) {m : Int} {S : List O} (h : Inv m S) (hm : m ≤ 100000) (limit : Int) (h0 : 0 < limit) (h1 : limit ≤ 1000000) : ∃ v S', run (n + 2) 22 [.ref 1, .d (.int limit)] S = .ok (.d (.int v)) S' ∧ 0 ≤ v ∧ v < limit ∧ Inv (m + 1) S' := by
  obtain ⟨c, l, a, r, rfl, h2, h3, h4, h5, h6⟩ := h
  obtain ⟨v, l', e, q1, q2, q3⟩ := r_draw n c l a limit r h2 h3 h4 h5 (by omega) h0 h1
  exact ⟨v, _, e, q1, q2, c, l', a + 1, r, rfl, h2, h3, q3, by omega, by omega⟩
theorem i_of (n : Nat) {m : Int} {S : List O} (h : Inv m S) (hm : m ≤ 100000) : ∃ v S', run (n + 3) 23 [.ref 1, .d (.list [.int 4, .int 100000])] S = .ok (.d (.int v)) S' ∧ (v = 4 ∨ v = 100000) ∧ Inv (m + 1) S' := by
  obtain ⟨v, S', e, q1, q2, q3⟩ := i_draw n h hm 2 (by decide) (by decide)
  rcases (show v = 0 ∨ v = 1 by omega) with rfl | rfl
  · refine ⟨4, S', ?_, .inl rfl, q3⟩
    rw [run_of t__law_of rfl]
    simp [f__law_of, e, exs, ex, ev, evs, evo, evt, R.st, R.bind, varW, startE, Ci.putAt, wipeE, index, seqOf, ok, okO, okB, atD, L2.atI, L2.ixN, binW, bop, negW, isaW, isaD, compare2, cop2, ints2, onS, onB, thenS, SR.out, errS, prim1, prim2, twoInts, p2I, tupW, lstW, lstAs, dataOf, unpS, putMany, aim]
  · refine ⟨100000, S', ?_, .inr rfl, q3⟩
    rw [run_of t__law_of rfl]
    simp [f__law_of, e, exs, ex, ev, evs, evo, evt, R.st, R.bind, varW, startE, Ci.putAt, wipeE, index, seqOf, ok, okO, okB, atD, L2.atI, L2.ixN, binW, bop, negW, isaW, isaD, compare2, cop2, ints2, onS, onB, thenS, SR.out, errS, prim1, prim2, twoInts, p2I, tupW, lstW, lstAs, dataOf, unpS, putMany, aim]
/-- a direction that is drawn -/
def Dr (p : Pt) : Prop := nz p ∧ p.1.natAbs ≤ 100000 ∧ p.2.natAbs ≤ 100000
theorem Dr.ok {p : Pt} (h : Dr p) : Ok p := ⟨h.1, by have := h.2.1; omega, by have := h.2.2; omega⟩
theorem i_toward (n : Nat) {m : Int} {S : List O} (h : Inv m S) (hm : m < 100000) (most : Int) (hq : most = 4 ∨ most = 100000) : ∃ p S', run (n + 3) 27 [.ref 1, .d (.int most)] S = .ok (dp p) S' ∧ Dr p ∧ Inv (m + 2) S' := by
  obtain ⟨v1, S1, e1, a1, a2, a3⟩ := i_draw n h (by omega) (2 * most + 1) (by omega) (by omega)
  obtain ⟨v2, S2, e2, b1, b2, b3⟩ := i_draw n a3 (by omega) (2 * most + 1) (by omega) (by omega)
  have s2 : smallI 2 = true := by decide
  have en := eqD_pair (v1 - most, v2 - most) (0, 0)
  have st1 : EX (n + 2) (.set 2 (.tup [(.bin .sub (.call 22 [(.var 0), (.bin .add (.bin .mul (.cst (.int 2)) (.var 1)) (.cst (.int 1)))]) (.var 1)), (.bin .sub (.call 22 [(.var 0), (.bin .add (.bin .mul (.cst (.int 2)) (.var 1)) (.cst (.int 1)))]) (.var 1))])) [some (.ref 1), some (.d (.int most)), none] S = .next [some (.ref 1), some (.d (.int most)), some (dp (v1 - most, v2 - most))] S2 := by
    simp [s2, e1, e2, pairD, exs, ex, ev, evs, evo, evt, R.st, R.bind, varW, startE, Ci.putAt, wipeE, index, seqOf, ok, okO, okB, atD, L2.atI, L2.ixN, binW, bop, negW, isaW, isaD, compare2, cop2, ints2, onS, onB, thenS, SR.out, errS, prim1, prim2, twoInts, p2I, tupW, lstW, lstAs, dataOf, unpS, putMany, aim]
  by_cases z : v1 - most = 0 ∧ v2 - most = 0
  · refine ⟨(1, 0), S2, ?_, ⟨.inl (by decide), by decide, by decide⟩, b3.le (by omega)⟩
    have en : eqD (pairD (v1 - most, v2 - most)) (pairD (0, 0)) = some true := by
      rw [eqD_pair, z.1, z.2]
      rfl
    refine run_by t__law_toward rfl (xs_cons st1 (xs_ret (ex_ret (w := dp (1, 0)) (σ1 := S2) ?_))) rfl
    unfold pairD at en
    simp only at en
    simp [en, pairD, exs, ex, ev, evs, evo, evt, R.st, R.bind, varW, startE, Ci.putAt, wipeE, index, seqOf, ok, okO, okB, atD, L2.atI, L2.ixN, binW, bop, negW, isaW, isaD, compare2, cop2, ints2, onS, onB, thenS, SR.out, errS, prim1, prim2, twoInts, p2I, tupW, lstW, lstAs, dataOf, unpS, putMany, aim]
  · refine ⟨(v1 - most, v2 - most), S2, ?_, ⟨?_, ?_, ?_⟩, b3.le (by omega)⟩
    · have en : eqD (pairD (v1 - most, v2 - most)) (pairD (0, 0)) = some false := by
        rw [eqD_pair]
        congr 1
        rw [decide_eq_false_iff_not]
        intro y
        obtain ⟨y1, y2⟩ := Prod.mk.inj y
        exact z ⟨y1, y2⟩
      refine run_by t__law_toward rfl (xs_cons st1 (xs_ret (ex_ret (w := dp (v1 - most, v2 - most)) (σ1 := S2) ?_))) rfl
      unfold pairD at en
      simp only at en
      simp [en, pairD, exs, ex, ev, evs, evo, evt, R.st, R.bind, varW, startE, Ci.putAt, wipeE, index, seqOf, ok, okO, okB, atD, L2.atI, L2.ixN, binW, bop, negW, isaW, isaD, compare2, cop2, ints2, onS, onB, thenS, SR.out, errS, prim1, prim2, twoInts, p2I, tupW, lstW, lstAs, dataOf, unpS, putMany, aim]
    · show v1 - most ≠ 0 ∨ v2 - most ≠ 0
      omega
    · show (v1 - most).natAbs ≤ 100000
      omega
    · show (v2 - most).natAbs ≤ 100000
      omega
theorem eqv_ints_nil : ∀ ns : List Int, PyData.eqvAll (ns.map PyData.int) [] = decide (ns = [])
  | [] => rfl
  | _ :: _ => rfl
theorem shaped_ints (ns : List Int) : SeqAt.shaped (.list (ns.map PyData.int)) = true := by
  have h1 : ∀ ns : List Int, PyData.canLayAll0 (ns.map PyData.int) = true := by
    intro ns
    induction ns with
    | nil => rfl
    | cons a r ih => simp only [List.map_cons, PyData.canLayAll0, PyData.canLay0, Bool.true_and]; exact ih
  have h2 : ∀ ns : List Int, PyData.depthAll (ns.map PyData.int) = 0 := by
    intro ns
    induction ns with
    | nil => rfl
    | cons a r ih => simp only [List.map_cons, PyData.depthAll, PyData.depth, ih]; rfl
  show (PyData.canLayAll0 (ns.map .int) && decide (PyData.depthAll (ns.map .int) + 1 ≤ 64)) = true
  rw [h1, h2]
  rfl
theorem r_begin (n : Nat) (ns : List Int) (hl : ns.length ≤ 63) : ∃ cells lefts, run (n + 1) 21 [.scr (ns.map .int)] [] = .ok (.ref 1) (St cells lefts 0 []) ∧ 0 < cells.length ∧ cells.length ≤ 63 ∧ lefts.length = cells.length := by
  have key : ∀ cells : List Int, cells.length ≤ 63 → EX n (.ret (.dict ["cells", "lefts", "at"] [(.var 1), (.comp true [2, 3] (.one 3) (.var 1) none (.ife (.cmp .ge (.var 3) (.bin .pow (.cst (.int 10)) (.cst (.int 18)))) (.var 3) (.cst (.int 0)))), (.cst (.int 0))])) [some (.scr (ns.map .int)), some (.d (.list (cells.map .int))), none, none] [] = .ret (.ref 1) (St cells (cells.map fun c => if 10 ^ 18 ≤ c then c else 0) 0 []) := fun cells h => by
    have c := comp_ok (aimF := fun x => aim (.one 3) x [some (.scr (ns.map .int)), some (.d (.list (cells.map .int))), none, none]) (e := fun ρ1 S2 => EV n (.ife (.cmp .ge (.var 3) (.bin .pow (.cst (.int 10)) (.cst (.int 18)))) (.var 3) (.cst (.int 0))) ρ1 S2) (σ := []) PyData.int (fun c => PyData.int (if 10 ^ 18 ≤ c then c else 0)) cells [] (fun x hx => by
      refine ⟨[some (.scr (ns.map .int)), some (.d (.list (cells.map .int))), none, some (.d (.int x))], rfl, ?_⟩
      by_cases q : (10 : Int) ^ 18 ≤ x
      · rw [if_pos q]
        have q' : (1000000000000000000 : Int) ≤ x := by simpa using q
        simp [q', exs, ex, ev, evs, evo, evt, R.st, R.bind, varW, startE, Ci.putAt, wipeE, index, seqOf, ok, okO, okB, atD, L2.atI, L2.ixN, binW, bop, negW, isaW, isaD, compare2, cop2, ints2, onS, onB, thenS, SR.out, errS, prim1, prim2, twoInts, p2I, tupW, lstW, lstAs, dataOf, unpS, putMany, aim]
      · rw [if_neg q]
        have q' : ¬ (1000000000000000000 : Int) ≤ x := by simpa using q
        simp [q', exs, ex, ev, evs, evo, evt, R.st, R.bind, varW, startE, Ci.putAt, wipeE, index, seqOf, ok, okO, okB, atD, L2.atI, L2.ixN, binW, bop, negW, isaW, isaD, compare2, cop2, ints2, onS, onB, thenS, SR.out, errS, prim1, prim2, twoInts, p2I, tupW, lstW, lstAs, dataOf, unpS, putMany, aim])
    have em : cells.map (fun c => PyData.int (if 10 ^ 18 ≤ c then c else 0)) = (cells.map fun c => if 10 ^ 18 ≤ c then c else 0).map PyData.int := by rw [List.map_map]; rfl
    rw [em] at c
    have ln : (cells.map PyData.int).length ≤ 100000 := by rw [List.length_map]; omega
    have tt : (fun ρ1 S2 => evt (run n) (lamOf gcK tab (run n)) (fun _ => .stuck) none ρ1 S2) = fun _ S => ok (.bool true) S := by
      funext ρ1 S2
      simp only [evt]
    unfold ok at c tt
    unfold EV at c
    have ec : ev (run n) (lamOf gcK tab (run n)) (fun _ => R.stuck) (.comp true [2, 3] (.one 3) (.var 1) none (.ife (.cmp .ge (.var 3) (.bin .pow (.cst (.int 10)) (.cst (.int 18)))) (.var 3) (.cst (.int 0)))) [some (.scr (ns.map .int)), some (.d (.list (cells.map .int))), none, none] [] = .ok (.ref 0) [.lst ((cells.map fun c => if 10 ^ 18 ≤ c then c else 0).map PyData.int)] := by
      have wp : wipeE [some (.scr (ns.map .int)), some (.d (.list (cells.map .int))), none, none] [2, 3] = [some (.scr (ns.map .int)), some (.d (.list (cells.map .int))), none, none] := rfl
      rw [ev.eq_22]
      simp only [ev.eq_1, varW, List.getElem?_cons_zero, List.getElem?_cons_succ, R.bind, overW, walkOf, itemsOf, if_pos ln, wp, tt, c, lstAs, if_true, newO, List.nil_append, List.length_nil]
    have nd : (["cells", "lefts", "at"] : List Str).Nodup := by decide
    simp only [EX, ex, ev.eq_5, evs, ev.eq_1, ev.eq_2, ok, ec, R.bind, R.st, varW, List.getElem?_cons_zero, List.getElem?_cons_succ, dictW, nd]
    rfl
  by_cases c : ns = []
  · refine ⟨[0], _, run_by t__law_begin rfl (xs_cons (ρ1 := [some (.scr (ns.map .int)), some (.d (.list ([0].map .int))), none, none]) (σ1 := []) ?_ (xs_ret (key [0] (by decide)))) rfl, by decide, by decide, by simp⟩
    subst c
    have q : eqD (.list []) (.list []) = some true := by decide +kernel
    simp [f__law_begin, scrEq, q, exs, ex, ev, evs, evo, evt, R.st, R.bind, varW, startE, Ci.putAt, wipeE, index, seqOf, ok, okO, okB, atD, L2.atI, L2.ixN, binW, bop, negW, isaW, isaD, compare2, cop2, ints2, onS, onB, thenS, SR.out, errS, prim1, prim2, twoInts, p2I, tupW, lstW, lstAs, dataOf, unpS, putMany, aim]
  · refine ⟨ns, _, run_by t__law_begin rfl (xs_cons (ρ1 := [some (.scr (ns.map .int)), some (.d (.list (ns.map .int))), none, none]) (σ1 := []) ?_ (xs_ret (key ns hl))) rfl, List.length_pos_iff.mpr c, hl, by simp⟩
    have e := shaped_ints ns
    have e0 := shaped_ints []
    have e2 := eqv_ints_nil ns
    rw [decide_eq_false c] at e2
    simp only [List.map_nil] at e0
    have hl2 : (ns.map PyData.int).length = ns.length := List.length_map ..
    have q : eqD (.list (ns.map PyData.int)) (.list []) = some false := by
      unfold eqD
      rw [e, e0]
      simp only [PyData.eqv, e2]
      rfl
    generalize ns.map PyData.int = ll at *
    simp [f__law_begin, scrEq, q, exs, ex, ev, evs, evo, evt, R.st, R.bind, varW, startE, Ci.putAt, wipeE, index, seqOf, ok, okO, okB, atD, L2.atI, L2.ixN, binW, bop, negW, isaW, isaD, compare2, cop2, ints2, onS, onB, thenS, SR.out, errS, prim1, prim2, twoInts, p2I, tupW, lstW, lstAs, dataOf, unpS, putMany, aim]
end K3

end
section
set_option linter.all false
set_option autoImplicit false
set_option maxRecDepth 10000
namespace K3
open PySem Ci Po
local instance hasK1 : HasK := ⟨[]⟩
theorem bare_pairs : ∀ l : List Pt, (∀ y ∈ l, Ok y) → bares (l.map pairD) = true
  | [], _ => rfl
  | a :: r, h => by
    have ha := h a List.mem_cons_self
    have lg : ∀ i : Int, i.natAbs ≤ 999999 → i.natAbs.log2 < 1920 := fun i hi => by
      by_cases z : i.natAbs = 0
      · rw [z]; decide
      · exact (Nat.log2_lt z).mpr (Nat.lt_of_le_of_lt hi (Nat.lt_of_lt_of_le (by decide : 999999 < 2 ^ 20) (Nat.pow_le_pow_right (by decide) (by decide))))
    show (bare (pairD a) && bares (r.map pairD)) = true
    rw [bare_pairs r fun y hy => h y (List.mem_cons_of_mem _ hy), Bool.and_true]
    show (decide (a.1.natAbs.log2 < 1920) && (decide (a.2.natAbs.log2 < 1920) && true)) = true
    rw [decide_eq_true (lg a.1 ha.2.1), decide_eq_true (lg a.2 ha.2.2)]
    rfl
theorem bulk_pairs : ∀ l : List Pt, PyData.bulkAll (l.map pairD) = 3 * l.length
  | [] => rfl
  | a :: r => by
    have h := bulk_pairs r
    unfold pairD at h ⊢
    simp only [List.map_cons, PyData.bulkAll, PyData.bulk, List.length_cons] at h ⊢
    omega
/-- a tuple of pairs is told by its text -/
theorem like_tup (n : Nat) (l : List Pt) (σ : List O) (h : ∀ y ∈ l, Ok y) (hl : l.length ≤ 60) : run (n + 1) 25 [.d (.tuple (l.map pairD)), .d (.tuple (l.map pairD))] σ = .ok (.d (.bool true)) σ := by
  refine r_like n _ σ (bare_pairs l h) rfl ?_ ?_
  · show PyData.bulkAll (l.map pairD) ≤ 8000
    rw [bulk_pairs]
    omega
  · show PyData.depthAll (l.map pairD) + 1 ≤ 60
    have := depth_pairs l
    omega
theorem like_3 (n : Nat) (l : List Pt) (σ : List O) (h : ∀ y ∈ l, Ok y) (hl : l.length ≤ 60) : run (n + 1) 25 [.d (.list [.tuple (l.map pairD), .tuple (l.map pairD), .tuple (l.map pairD)]), .d (.list [.tuple (l.map pairD), .tuple (l.map pairD), .tuple (l.map pairD)])] σ = .ok (.d (.bool true)) σ := by
  refine r_like n _ σ ?_ rfl ?_ ?_
  · show (bares (l.map pairD) && (bares (l.map pairD) && (bares (l.map pairD) && true))) = true
    rw [bare_pairs l h]
    rfl
  · have e := bulk_pairs l
    show PyData.bulkAll (l.map pairD) + 1 + (PyData.bulkAll (l.map pairD) + 1 + (PyData.bulkAll (l.map pairD) + 1 + 0)) ≤ 8000
    omega
  · have := depth_pairs l
    show max (PyData.depthAll (l.map pairD) + 1) (max (PyData.depthAll (l.map pairD) + 1) (max (PyData.depthAll (l.map pairD) + 1) 0)) + 1 ≤ 60
    omega
theorem like_p3 (n : Nat) (a b c : Pt) (σ : List O) (ha : Ok a) (hb : Ok b) (hc : Ok c) : run (n + 1) 25 [.d (.list [pairD a, pairD b, pairD c]), .d (.list [pairD a, pairD b, pairD c])] σ = .ok (.d (.bool true)) σ := by
  have hm : ∀ y ∈ [a, b, c], Ok y := fun y hy => by
    simp only [List.mem_cons, List.not_mem_nil, or_false] at hy
    rcases hy with rfl | rfl | rfl <;> assumption
  refine r_like n (.list ([a, b, c].map pairD)) σ (bare_pairs _ hm) rfl ?_ ?_
  · show PyData.bulkAll ([a, b, c].map pairD) ≤ 8000
    rw [bulk_pairs]
    show 3 * 3 ≤ 8000
    decide
  · show PyData.depthAll ([a, b, c].map pairD) + 1 ≤ 60
    have := depth_pairs [a, b, c]
    omega
def toE : C := .call 27 [(.var 0), (.call 23 [(.var 0), (.lst false [(.cst (.int 4)), (.bin .pow (.cst (.int 10)) (.cst (.int 5)))])])]
theorem i_toE (n : Nat) {m : Int} {S : List O} (h : Inv m S) (hm : m < 90000) (ρ : Ev) (h0 : ρ[0]? = some (some (.ref 1))) : ∃ p S', EV (n + 3) toE ρ S = .ok (dp p) S' ∧ Dr p ∧ Inv (m + 3) S' := by
  obtain ⟨v, S1, e1, q1, i1⟩ := i_of n h (by omega)
  obtain ⟨p, S2, e2, q2, i2⟩ := i_toward n i1 (by omega) v q1
  refine ⟨p, S2, ?_, q2, i2.le (by omega)⟩
  simp [toE, h0, e1, e2, exs, ex, ev, evs, evo, evt, R.st, R.bind, varW, startE, Ci.putAt, wipeE, index, seqOf, ok, okO, okB, atD, L2.atI, L2.ixN, binW, bop, negW, isaW, isaD, compare2, cop2, ints2, onS, onB, thenS, SR.out, errS, prim1, prim2, twoInts, p2I, tupW, lstW, lstAs, dataOf, unpS, putMany, aim]
theorem i_towards (n : Nat) (ρ0 : Ev) (aimF : PyData → Option Ev) (hA : ∀ x, ∃ ρ, aimF x = some ρ ∧ ρ[0]? = some (some (.ref 1))) : ∀ (l : List PyData) (acc : List PyData) (m : Int) (S : List O), Inv m S → m + 3 * (l.length : Nat) < 90000 →
    ∃ (ps : List Pt) (S' : List O), compL aimF (fun _ S => ok (.bool true) S) (fun ρ1 S2 => EV (n + 3) toE ρ1 S2) l acc S = .ok (acc ++ ps.map pairD) S' ∧ Inv (m + 3 * (l.length : Nat)) S' ∧ ps.length = l.length ∧ ∀ p ∈ ps, Dr p
  | [], acc, m, S, hi, _ => ⟨[], S, by simp [compL], by simpa using hi, rfl, by simp⟩
  | x :: l, acc, m, S, hi, hm => by
    have hm' : m + 3 * (l.length : Nat) + 3 < 90000 := by
      have : (x :: l).length = l.length + 1 := rfl
      rw [this] at hm
      omega
    obtain ⟨ρ, a1, a2⟩ := hA x
    obtain ⟨p, S1, e1, q1, i1⟩ := i_toE n hi (by omega) ρ a2
    obtain ⟨ps, S2, e2, q2, q3, q4⟩ := i_towards n ρ0 aimF hA l (acc ++ [pairD p]) (m + 3) S1 i1 (by omega)
    refine ⟨p :: ps, S2, ?_, ?_, by simp [q3], ?_⟩
    · have e1 : EV (n + 3) toE ρ S = .ok (.d (pairD p)) S1 := e1
      simp only [compL, a1, ok, e1]
      unfold ok at e2
      rw [e2]
      simp
    · have : (x :: l).length = l.length + 1 := rfl
      rw [this]
      exact q2.le (by omega)
    · intro y hy
      rcases List.mem_cons.mp hy with z | z
      · rw [z]; exact q1
      · exact q4 y z
def loB : List S := [.set 8 (.lst false [(.call 12 [(.var 3)]), (.call 8 [(.var 3)]), (.call 13 [(.call 13 [(.var 3)])])]), .ite (.not_ (.call 25 [(.var 8), (.lst false [(.call 28 [(.var 3)]), (.var 3), (.tup [(.neg (.idx (.var 3) (.cst (.int 0)))), (.neg (.idx (.var 3) (.cst (.int 1))))])])])) [.ret (.cst (.bool false))] []]
theorem tl_Ok {p : Pt} (h : Ok p) : Ok (tl p) := by
  refine ⟨?_, ?_, ?_⟩
  · have := h.1
    unfold nz at this ⊢
    show -p.2 ≠ 0 ∨ p.1 ≠ 0
    omega
  · have := h.2.2
    show (-p.2).natAbs ≤ _
    omega
  · exact h.2.1
theorem r_lo1 (n : Nat) (p : Pt) (S : List O) (h : Ok p) (z0 z1 z2 z4 z5 z6 z7 z8 z9 z10 z11 : Option W) :
    XS (n + 6) loB [z0, z1, z2, some (dp p), z4, z5, z6, z7, z8, z9, z10, z11] S = .next [z0, z1, z2, some (dp p), z4, z5, z6, z7, some (.d (.list [pairD (pl p), pairD p, pairD (tl (tl p))])), z9, z10, z11] S := by
  have e1 := r_least_direction n p S h
  have e2 := r_need_direction (n + 1) p S h
  have e3 := r_turned_left n p S h
  have e4 := r_turned_left n (tl p) S (tl_Ok h)
  have e5 := r_plainly (n + 4) p S (.inl h) h.2
  have e6 := like_p3 (n + 5) (pl p) p (tl (tl p)) S h.pl.1 h (tl_Ok (tl_Ok h))
  have tt : PyData.tuple [.int (-p.1), .int (-p.2)] = pairD (tl (tl p)) := rfl
  have ix0 : index (dp p) (.d (.int 0)) S = .ok (.d (.int p.1)) S := rfl
  have ix1 : index (dp p) (.d (.int 1)) S = .ok (.d (.int p.2)) S := rfl
  refine xs_cons (ex_set (w := .d (.list [pairD (pl p), pairD p, pairD (tl (tl p))])) (σ1 := S) ?_) (xs_cons (ex_ite_f (σ1 := S) ?_ xs_nil) xs_nil)
  · simp only [EV, ev, evs, R.bind, varW, List.getElem?_cons_zero, List.getElem?_cons_succ, e1, e2, e3, e4, lstW, dataOf, Option.map_some, List.length_cons, List.length_nil, lstAs, ok]
    simp
  · simp only [EV, ev, evs, R.bind, varW, List.getElem?_cons_zero, List.getElem?_cons_succ, List.set_cons_zero, List.set_cons_succ, e5, ix0, ix1, negW, ok, tupW, lstW, dataOf, Option.map_some, List.length_cons, List.length_nil, lstAs, Nat.reduceAdd, Nat.reduceLeDiff, if_true, tt]
    simp [e6, exs, ex, ev, evs, evo, evt, R.st, R.bind, varW, startE, Ci.putAt, wipeE, index, seqOf, ok, okO, okB, atD, L2.atI, L2.ixN, binW, bop, negW, isaW, isaD, compare2, cop2, ints2, onS, onB, thenS, SR.out, errS, prim1, prim2, twoInts, p2I, tupW, lstW, lstAs, dataOf, unpS, putMany, aim]
theorem r_loAll (n : Nat) (S : List O) : ∀ (l : List Pt) (z0 z1 z2 z3 z4 z5 z6 z7 z8 z9 z10 z11 : Option W), (∀ p ∈ l, Ok p) →
    ∃ z3' z8', forL (aim (.one 3)) (fun ρ1 σ2 => XS (n + 6) loB ρ1 σ2) (l.map pairD) [z0, z1, z2, z3, z4, z5, z6, z7, z8, z9, z10, z11] S = .next [z0, z1, z2, z3', z4, z5, z6, z7, z8', z9, z10, z11] S
  | [], z0, z1, z2, z3, z4, z5, z6, z7, z8, z9, z10, z11, _ => ⟨z3, z8, rfl⟩
  | p :: l, z0, z1, z2, z3, z4, z5, z6, z7, z8, z9, z10, z11, h => by
    have e := r_lo1 n p S (h p List.mem_cons_self) z0 z1 z2 z4 z5 z6 z7 z8 z9 z10 z11
    obtain ⟨y3, y8, q⟩ := r_loAll n S l z0 z1 z2 (some (dp p)) z4 z5 z6 z7 (some (.d (.list [pairD (pl p), pairD p, pairD (tl (tl p))]))) z9 z10 z11 fun y hy => h y (List.mem_cons_of_mem _ hy)
    refine ⟨y3, y8, ?_⟩
    have ea : aim (.one 3) (pairD p) [z0, z1, z2, z3, z4, z5, z6, z7, z8, z9, z10, z11] = some [z0, z1, z2, some (dp p), z4, z5, z6, z7, z8, z9, z10, z11] := rfl
    simp only [List.map_cons, forL, ea, e]
    exact q
theorem pairLe_iff {a b : Pt} : pairLe a b = true ↔ ¬ (b.1 < a.1 ∨ (b.1 = a.1 ∧ b.2 < a.2)) := by
  unfold pairLe
  rw [← pairLt_iff]
  simp
theorem merge_same {l m : List Pt} (h : l.Perm m) : l.mergeSort pairLe = m.mergeSort pairLe := by
  have tr : ∀ a b c : Pt, pairLe a b = true → pairLe b c = true → pairLe a c = true := fun a b c h1 h2 => by
    rw [pairLe_iff] at *
    omega
  have to : ∀ a b : Pt, (pairLe a b || pairLe b a) = true := fun a b => by
    rw [Bool.or_eq_true, pairLe_iff, pairLe_iff]
    omega
  refine List.Perm.eq_of_pairwise (le := fun a b => pairLe a b = true) ?_ (List.pairwise_mergeSort tr to l) (List.pairwise_mergeSort tr to m) ?_
  · intro a b _ _ h1 h2
    rw [pairLe_iff] at h1 h2
    exact Prod.ext (by omega) (by omega)
  · exact (List.mergeSort_perm l pairLe).trans (h.trans (List.mergeSort_perm m pairLe).symm)
end K3

end
section
set_option linter.all false
set_option autoImplicit false
set_option maxRecDepth 10000
set_option maxHeartbeats 1000000
namespace K3
open PySem Ci Po
def sh1 : C := .bin .add (.slc (.var 5) (some (.var 11)) none) (.slc (.var 5) none (some (.var 11)))
theorem drop_map (l : List Pt) (i : Nat) : (l.map pairD).drop i ++ (l.map pairD).take i = (l.drop i ++ l.take i).map pairD := by
  simp [List.map_take, List.map_drop]
theorem r_shape (n : Nat) (l : List Pt) (i : Nat) (S : List O) (hi : i ≤ l.length) (hl : l.length ≤ 60) (ρ : Ev) (h5 : ρ[5]? = some (some (.d (.tuple (l.map pairD))))) (h11 : ρ[11]? = some (some (.d (.int (i : Nat))))) :
    EV n sh1 ρ S = .ok (.d (.tuple ((l.drop i ++ l.take i).map pairD))) S := by
  have hl2 : (l.map pairD).length = l.length := List.length_map ..
  have k1 := cut_lo (l.map pairD) i (by omega)
  have k2 := cut_hi (l.map pairD) i (by omega)
  rw [← drop_map]
  generalize l.map pairD = ll at *
  have h3 : (ll.drop i).length + (ll.take i).length ≤ 100000 := by simp; omega
  have e1 : ev (run n) (lamOf gcK tab (run n)) (fun _ => R.stuck) (.slc (.var 5) none (some (.var 11))) ρ S = .ok (.d (.tuple (ll.take i))) S := by
    rw [← k1]
    simp [sliceW, toInt, h5, h11, exs, ex, ev, evs, evo, evt, R.st, R.bind, varW, startE, Ci.putAt, wipeE, index, seqOf, ok, okO, okB, atD, L2.atI, L2.ixN, binW, bop, negW, isaW, isaD, compare2, cop2, ints2, onS, onB, thenS, SR.out, errS, prim1, prim2, twoInts, p2I, tupW, lstW, lstAs, dataOf, unpS, putMany, aim]
  have e2 : ev (run n) (lamOf gcK tab (run n)) (fun _ => R.stuck) (.slc (.var 5) (some (.var 11)) none) ρ S = .ok (.d (.tuple (ll.drop i))) S := by
    rw [← k2]
    simp [sliceW, toInt, h5, h11, exs, ex, ev, evs, evo, evt, R.st, R.bind, varW, startE, Ci.putAt, wipeE, index, seqOf, ok, okO, okB, atD, L2.atI, L2.ixN, binW, bop, negW, isaW, isaD, compare2, cop2, ints2, onS, onB, thenS, SR.out, errS, prim1, prim2, twoInts, p2I, tupW, lstW, lstAs, dataOf, unpS, putMany, aim]
  show ev _ _ _ (.bin .add (.slc (.var 5) (some (.var 11)) none) (.slc (.var 5) none (some (.var 11)))) ρ S = _
  rw [ev.eq_6, e2]
  simp only [R.bind]
  rw [e1]
  simp only [R.bind, binW, bop, if_pos h3, okO]
theorem srt_Ok {l : List Pt} (h : ∀ y ∈ l, Ok y ∧ Pl y) : ∀ y ∈ srt l, Ok y ∧ Pl y := fun y hy => h y (((srt_ok fun z hz => (h z hz).2).2.2 y).mp hy)
theorem map_pl_self {l : List Pt} (h : ∀ y ∈ l, Pl y) : l.map pl = l := by
  conv => rhs; rw [← List.map_id l]
  exact List.map_congr_left fun y hy => pl_self (h y hy)
theorem range1_ok (i : Int) (h : -1000000 < i ∧ i < 1000000) (S : List O) : range1W (.d (.int i)) S = .ok (.d (.list (rangeD 0 i))) S := by
  unfold range1W
  simp only [if_pos h]
  rfl
theorem len_tup (xs : List PyData) (S : List O) : prim1 .len (.d (.tuple xs)) S = .ok (.d (.int (xs.length : Nat))) S := rfl
theorem ev_range1 {n : Nat} {a : C} {ρ : Ev} {σ σ1 : List O} {w : W} {r : R W} (h : EV n a ρ σ = .ok w σ1) (h2 : range1W w σ1 = r) : EV n (.range1 a) ρ σ = r := by
  have h : ev (run n) (lamOf gcK tab (run n)) (fun _ => .stuck) a ρ σ = .ok w σ1 := h
  simp only [EV, ev.eq_23, h, R.bind, h2]
theorem r_right (n : Nat) {m : Int} {S : List O} (hi : Inv m S) (hm : m < 80000) : ∃ S', run (n + 7) 32 [.ref 1] S = .ok (.d (.bool true)) S' ∧ Inv (m + 31) S' := by
  obtain ⟨v, Sr, ed, v0, v1, id⟩ := i_draw (n + 4) hi (by omega) 11 (by decide) (by decide)
  have rl : (rangeD 0 v).length = v.toNat := by unfold rangeD; simp
  obtain ⟨ps, S1, ec, i1, pl1, dr⟩ := i_towards (n + 3) [] (fun x => aim (.one 10) x [some (.ref 1), none, none, none, none, none, none, none, none, none, none, none]) (fun x => ⟨[some (.ref 1), none, none, none, none, none, none, none, none, none, some (.d x), none], rfl, rfl⟩) (rangeD 0 v) [] (m + 1) Sr id (by rw [rl]; omega)
  have i1 : Inv (m + 31) S1 := i1.le (by rw [rl]; omega)
  have pn : ps.length ≤ 10 := by rw [pl1, rl]; omega
  have pok : ∀ y ∈ ps, Ok y := fun y hy => (dr y hy).ok
  have ppl : ∀ y ∈ ps.map pl, Ok y ∧ Pl y := fun y hy => by
    obtain ⟨x, hx, rfl⟩ := List.mem_map.mp hy
    exact (pok x hx).pl
  -- due
  obtain ⟨D, hD⟩ : ∃ D, srt (ps.map pl) = D := ⟨_, rfl⟩
  have DO : ∀ y ∈ D, Ok y ∧ Pl y := hD ▸ srt_Ok ppl
  have Dsd : Sd D := hD ▸ (srt_ok fun y hy => (ppl y hy).2).1
  have Dn : D.length ≤ 10 := by
    have := srt_len (ps.map pl)
    rw [hD, List.length_map] at this
    omega
  have e2 := r_sorted (n + 2) ps S1 pok (by omega)
  rw [hD] at e2
  -- longer
  obtain ⟨lg, hlg⟩ : ∃ lg, ps.map (fun p => ((3 * p.1, 3 * p.2) : Pt)) = lg := ⟨_, rfl⟩
  have lgn : lg.length ≤ 10 := by rw [← hlg, List.length_map]; omega
  have lgO : ∀ y ∈ lg.reverse, Ok y := fun y hy => by
    rw [List.mem_reverse, ← hlg] at hy
    obtain ⟨x, hx, rfl⟩ := List.mem_map.mp hy
    have q := dr x hx
    refine ⟨?_, ?_, ?_⟩
    · have := q.1
      unfold nz at this ⊢
      show 3 * x.1 ≠ 0 ∨ 3 * x.2 ≠ 0
      omega
    · have := q.2.1
      show (3 * x.1).natAbs ≤ 999999
      omega
    · have := q.2.2
      show (3 * x.2).natAbs ≤ 999999
      omega
  have lgD : srt (lg.reverse.map pl) = D := by
    rw [← hD]
    refine srt_congr (fun y hy => (ppl y hy).2) fun x => ?_
    rw [List.mem_map, List.mem_map, ← hlg]
    constructor
    · rintro ⟨y, hy, rfl⟩
      rw [List.mem_reverse] at hy
      obtain ⟨z, hz, rfl⟩ := List.mem_map.mp hy
      exact ⟨z, hz, (pl_mul (dr z hz).1 (by decide)).symm⟩
    · rintro ⟨z, hz, rfl⟩
      exact ⟨(3 * z.1, 3 * z.2), List.mem_reverse.mpr (List.mem_map.mpr ⟨z, hz, rfl⟩), pl_mul (dr z hz).1 (by decide)⟩
  have DD : srt (D.map pl) = D := by rw [map_pl_self fun y hy => (DO y hy).2]; exact srt_self Dsd fun y hy => (DO y hy).2
  have o1 := r_in_order n ps S1 pok (by omega)
  rw [hD] at o1
  have o2 := r_in_order n lg.reverse (S1 ++ [.dead]) lgO (by rw [List.length_reverse]; omega)
  rw [lgD] at o2
  have o3 := r_in_order n D (S1 ++ [.dead] ++ [.dead]) (fun y hy => (DO y hy).1) (by omega)
  rw [DD] at o3
  have i4 : Inv (m + 31) (S1 ++ [.dead] ++ [.dead] ++ [.dead]) := ((i1.more _).more _).more _
  have k4 := like_3 (n + 5) D (S1 ++ [.dead] ++ [.dead] ++ [.dead]) (fun y hy => (DO y hy).1) (by omega)
  generalize hS2 : S1 ++ [O.dead] = S2 at *
  generalize hS3 : S2 ++ [O.dead] = S3 at *
  generalize hS4 : S3 ++ [O.dead] = S4 at *
  -- turned
  obtain ⟨TL, hTL⟩ : ∃ TL, D.map tl = TL := ⟨_, rfl⟩
  have TO : ∀ y ∈ TL, Ok y ∧ Pl y := fun y hy => by
    rw [← hTL] at hy
    obtain ⟨x, hx, rfl⟩ := List.mem_map.mp hy
    exact ⟨tl_Ok (DO x hx).1, tl_Pl (DO x hx).2⟩
  have Tn : TL.length = D.length := by rw [← hTL, List.length_map]
  have k6 := like_tup (n + 5) TL S4 (fun y hy => (TO y hy).1) (by omega)
  obtain ⟨A, B, hAB, hF⟩ := srt_tl Dsd fun y hy => (DO y hy).2
  rw [hTL] at hF
  have o7 := r_in_order n TL S4 (fun y hy => (TO y hy).1) (by omega)
  rw [map_pl_self fun y hy => (TO y hy).2] at o7
  obtain ⟨F, hFF⟩ : ∃ F, srt TL = F := ⟨_, rfl⟩
  rw [hFF] at o7 hF
  have TAB : TL = A.map tl ++ B.map tl := by rw [← hTL, hAB, List.map_append]
  have Fn : F.length = TL.length := by rw [hF, TAB]; simp; omega
  have Fp : F.Perm TL := by
    rw [hF, TAB]
    exact List.perm_append_comm
  have i7 : Inv (m + 31) (S4 ++ [.dead]) := i4.more _
  generalize hS7 : S4 ++ [O.dead] = S7 at *
  -- the statements
  have rr : (List.range F.length).map (fun (i : Nat) => PyData.int (0 + (i : Int))) = rangeD 0 (F.length : Nat) := by
    unfold rangeD
    congr 2
  have tt : (fun ρ1 S2 => evt (run (n + 6)) (lamOf gcK tab (run (n + 6))) (fun _ => .stuck) none ρ1 S2) = fun _ S => ok (.bool true) S := by
    funext ρ1 S2
    simp only [evt]
  have s1 : EV (n + 6) (.comp false [9, 10] (.one 10) (.range1 (.call 22 [(.var 0), (.cst (.int 11))])) none toE) [some (.ref 1), none, none, none, none, none, none, none, none, none, none, none] S = .ok (.d (.list (ps.map pairD))) S1 := by
    have wp : wipeE [some (W.ref 1), none, none, none, none, none, none, none, none, none, none, none] [9, 10] = [some (.ref 1), none, none, none, none, none, none, none, none, none, none, none] := rfl
    have ln : (rangeD 0 v).length ≤ 100000 := by rw [rl]; omega
    have b1 : -1000000 < v ∧ v < 1000000 := by omega
    unfold ok at ec tt
    unfold EV at ec
    show ev _ _ _ _ _ _ = _
    rw [ev.eq_22]
    simp only [ev.eq_23, ev.eq_14, evs, ev.eq_1, ev.eq_2, varW, List.getElem?_cons_zero, List.getElem?_cons_succ, R.bind, ok, ed, range1W, if_pos b1, overW, walkOf, itemsOf, if_pos ln, wp, tt, ec, lstAs, List.nil_append]
    rfl
  have s3 := ev_comp (n := n + 6) (own := [9, 3]) (tg := .one 3) (it := .var 1) (e := .tup [(.bin .mul (.cst (.int 3)) (.idx (.var 3) (.cst (.int 0)))), (.bin .mul (.cst (.int 3)) (.idx (.var 3) (.cst (.int 1))))]) (ρ := [some (.ref 1), some (.d (.tuple (ps.map pairD))), some (.d (.tuple (D.map pairD))), none, none, none, none, none, none, none, none, none]) (σ := S1) (σ1 := S1) (w := .d (.tuple (ps.map pairD))) (l := ps) pairD (fun p => pairD (3 * p.1, 3 * p.2)) (by simp [exs, ex, ev, evs, evo, evt, R.st, R.bind, varW, startE, Ci.putAt, wipeE, index, seqOf, ok, okO, okB, atD, L2.atI, L2.ixN, binW, bop, negW, isaW, isaD, compare2, cop2, ints2, onS, onB, thenS, SR.out, errS, prim1, prim2, twoInts, p2I, tupW, lstW, lstAs, dataOf, unpS, putMany, aim]) rfl (by omega) (fun x hx => by
    refine ⟨[some (.ref 1), some (.d (.tuple (ps.map pairD))), some (.d (.tuple (D.map pairD))), some (dp x), none, none, none, none, none, none, none, none], rfl, ?_⟩
    have sm : smallI 3 = true := by decide
    simp [dp, pairD, sm, exs, ex, ev, evs, evo, evt, R.st, R.bind, varW, startE, Ci.putAt, wipeE, index, seqOf, ok, okO, okB, atD, L2.atI, L2.ixN, binW, bop, negW, isaW, isaD, compare2, cop2, ints2, onS, onB, thenS, SR.out, errS, prim1, prim2, twoInts, p2I, tupW, lstW, lstAs, dataOf, unpS, putMany, aim])
  have em3 : ps.map (fun p => pairD (3 * p.1, 3 * p.2)) = lg.map pairD := by rw [← hlg, List.map_map]; rfl
  rw [em3] at s3
  have s5 := ev_comp (n := n + 6) (own := [9, 3]) (tg := .one 3) (it := .var 2) (e := .call 13 [(.var 3)]) (ρ := [some (.ref 1), some (.d (.tuple (ps.map pairD))), some (.d (.tuple (D.map pairD))), none, some (.d (.tuple (lg.map pairD))), none, none, none, none, none, none, none]) (σ := S4) (σ1 := S4) (w := .d (.tuple (D.map pairD))) (l := D) pairD (fun p => pairD (tl p)) (by simp [exs, ex, ev, evs, evo, evt, R.st, R.bind, varW, startE, Ci.putAt, wipeE, index, seqOf, ok, okO, okB, atD, L2.atI, L2.ixN, binW, bop, negW, isaW, isaD, compare2, cop2, ints2, onS, onB, thenS, SR.out, errS, prim1, prim2, twoInts, p2I, tupW, lstW, lstAs, dataOf, unpS, putMany, aim]) rfl (by omega) (fun x hx => by
    refine ⟨[some (.ref 1), some (.d (.tuple (ps.map pairD))), some (.d (.tuple (D.map pairD))), some (dp x), some (.d (.tuple (lg.map pairD))), none, none, none, none, none, none, none], rfl, ?_⟩
    exact ev_call (evs_1 (w := dp x) (σ1 := S4) (by simp [exs, ex, ev, evs, evo, evt, R.st, R.bind, varW, startE, Ci.putAt, wipeE, index, seqOf, ok, okO, okB, atD, L2.atI, L2.ixN, binW, bop, negW, isaW, isaD, compare2, cop2, ints2, onS, onB, thenS, SR.out, errS, prim1, prim2, twoInts, p2I, tupW, lstW, lstAs, dataOf, unpS, putMany, aim])) (r_turned_left n x S4 (DO x hx).1))
  have em5 : D.map (fun p => pairD (tl p)) = TL.map pairD := by rw [← hTL, List.map_map]; rfl
  rw [em5] at s5
  have s6 := ev_comp (n := n + 6) (own := [9, 3]) (tg := .one 3) (it := .var 2) (e := .tup [(.neg (.idx (.var 3) (.cst (.int 1)))), (.idx (.var 3) (.cst (.int 0)))]) (ρ := [some (.ref 1), some (.d (.tuple (ps.map pairD))), some (.d (.tuple (D.map pairD))), none, some (.d (.tuple (lg.map pairD))), some (.d (.tuple (TL.map pairD))), none, none, none, none, none, none]) (σ := S4) (σ1 := S4) (w := .d (.tuple (D.map pairD))) (l := D) pairD (fun p => pairD (tl p)) (by simp [exs, ex, ev, evs, evo, evt, R.st, R.bind, varW, startE, Ci.putAt, wipeE, index, seqOf, ok, okO, okB, atD, L2.atI, L2.ixN, binW, bop, negW, isaW, isaD, compare2, cop2, ints2, onS, onB, thenS, SR.out, errS, prim1, prim2, twoInts, p2I, tupW, lstW, lstAs, dataOf, unpS, putMany, aim]) rfl (by omega) (fun x hx => by
    refine ⟨[some (.ref 1), some (.d (.tuple (ps.map pairD))), some (.d (.tuple (D.map pairD))), some (dp x), some (.d (.tuple (lg.map pairD))), some (.d (.tuple (TL.map pairD))), none, none, none, none, none, none], rfl, ?_⟩
    simp [dp, pairD, tl, exs, ex, ev, evs, evo, evt, R.st, R.bind, varW, startE, Ci.putAt, wipeE, index, seqOf, ok, okO, okB, atD, L2.atI, L2.ixN, binW, bop, negW, isaW, isaD, compare2, cop2, ints2, onS, onB, thenS, SR.out, errS, prim1, prim2, twoInts, p2I, tupW, lstW, lstAs, dataOf, unpS, putMany, aim])
  rw [em5] at s6
  have s8 := ev_comp (n := n + 6) (own := [9, 11]) (tg := .one 11) (it := .range1 (.p1 .len (.var 6))) (e := sh1) (ρ := [some (.ref 1), some (.d (.tuple (ps.map pairD))), some (.d (.tuple (D.map pairD))), none, some (.d (.tuple (lg.map pairD))), some (.d (.tuple (TL.map pairD))), some (.d (.tuple (F.map pairD))), none, none, none, none, none]) (σ := S7) (σ1 := S7) (w := .d (.list (rangeD 0 (F.length : Nat)))) (l := List.range F.length) (fun (i : Nat) => PyData.int (0 + (i : Int))) (fun i => PyData.tuple ((TL.drop i ++ TL.take i).map pairD)) (by
      have hl2 : (F.map pairD).length = F.length := List.length_map ..
      have b1 : -1000000 < ((F.length : Nat) : Int) ∧ ((F.length : Nat) : Int) < 1000000 := by omega
      refine ev_range1 (ev_p1 (w := .d (.tuple (F.map pairD))) (σ1 := S7) (r := .ok (.d (.int (F.length : Nat))) S7) ?_ ?_) (range1_ok _ b1 _)
      · simp only [EV, ev.eq_1, varW, List.getElem?_cons_zero, List.getElem?_cons_succ]
      · rw [len_tup, hl2]) (by rw [rr]; rfl) (by rw [List.length_range]; omega) (fun i hi => by
    refine ⟨[some (.ref 1), some (.d (.tuple (ps.map pairD))), some (.d (.tuple (D.map pairD))), none, some (.d (.tuple (lg.map pairD))), some (.d (.tuple (TL.map pairD))), some (.d (.tuple (F.map pairD))), none, none, none, none, some (.d (.int (0 + (i : Int))))], rfl, ?_⟩
    have hi : i < F.length := List.mem_range.mp hi
    refine r_shape (n + 6) TL i S7 (by omega) (by omega) _ rfl ?_
    show some (some (W.d (PyData.int (0 + (i : Int))))) = some (some (W.d (PyData.int (i : Int))))
    rw [Int.zero_add])
  have em8 : (List.range F.length).map (fun i => PyData.tuple ((TL.drop i ++ TL.take i).map pairD)) = ((List.range F.length).map fun i => TL.drop i ++ TL.take i).map fun r => PyData.tuple (r.map pairD) := by rw [List.map_map]; rfl
  rw [em8] at s8
  obtain ⟨shp, hshp⟩ : ∃ shp, (List.range F.length).map (fun i => TL.drop i ++ TL.take i) = shp := ⟨_, rfl⟩
  rw [hshp] at s8
  obtain ⟨y3, y8, s10⟩ := r_loAll n S7 ps (some (.ref 1)) (some (.d (.tuple (ps.map pairD)))) (some (.d (.tuple (D.map pairD)))) none (some (.d (.tuple (lg.map pairD)))) (some (.d (.tuple (TL.map pairD)))) (some (.d (.tuple (F.map pairD)))) (some (.d (.list (shp.map fun r => PyData.tuple (r.map pairD))))) none none none none pok
  -- far among the shapes
  have fin : F ≠ [] → F ∈ shp := fun nf => by
    rw [← hshp, List.mem_map]
    by_cases hB : B = []
    · refine ⟨0, List.mem_range.mpr (List.length_pos_iff.mpr nf), ?_⟩
      rw [hF, TAB, hB]
      simp
    · refine ⟨A.length, List.mem_range.mpr ?_, ?_⟩
      · have : 0 < B.length := List.length_pos_iff.mpr hB
        rw [hF]
        simp
        omega
      · rw [hF, TAB, List.drop_append_of_le_length (by simp), List.take_append_of_le_length (by simp)]
        have l1 : (A.map tl).length = A.length := List.length_map ..
        rw [← l1, List.drop_length, List.take_length]
        rfl
  have sF : prim1 .sorted_ (.d (.tuple (F.map pairD))) S7 = .ok (.d (.list ((TL.mergeSort pairLe).map pairD))) S7 := by
    simp only [prim1, seqOf, Option.bind, mapM_pairs]
    rw [if_pos (by omega), merge_same Fp]
    rfl
  have sT : prim1 .sorted_ (.d (.tuple (TL.map pairD))) S7 = .ok (.d (.list ((TL.mergeSort pairLe).map pairD))) S7 := by
    simp only [prim1, seqOf, Option.bind, mapM_pairs]
    rw [if_pos (by omega)]
    rfl
  have eqS := eqD_pairs (TL.mergeSort pairLe) (TL.mergeSort pairLe)
  rw [decide_eq_true rfl] at eqS
  have eqF := eqD_pairsT F []
  have inF := inD_rows F shp
  have pv : (lg.map pairD).reverse = lg.reverse.map pairD := (List.map_reverse ..).symm
  refine ⟨S7, ?_, i7⟩
  refine run_by t__law_right rfl (xs_cons (ex_set (w := .d (.tuple (ps.map pairD))) (σ1 := S1) (ev_p1 s1 ?_)) (xs_cons (ex_set (w := .d (.tuple (D.map pairD))) (σ1 := S1) (ev_call (evs_1 (w := .d (.tuple (ps.map pairD))) (σ1 := S1) ?_) e2)) (xs_cons (ex_set (w := .d (.tuple (lg.map pairD))) (σ1 := S1) (ev_p1 s3 ?_)) (xs_cons (ex_ite_f (σ1 := S4) ?_ xs_nil)
    (xs_cons (ex_set (w := .d (.tuple (TL.map pairD))) (σ1 := S4) (ev_p1 s5 ?_)) (xs_cons (ex_ite_f (σ1 := S4) ?_ xs_nil) (xs_cons (ex_set (w := .d (.tuple (F.map pairD))) (σ1 := S7) (ev_call (evs_1 (w := .d (.tuple (TL.map pairD))) (σ1 := S4) ?_) o7)) (xs_cons (ex_set s8) (xs_cons (ex_ite_f (σ1 := S7) ?_ xs_nil)
    (xs_cons (ex_for (b := loB) (w := .d (.tuple (ps.map pairD))) (σ1 := S7) (xs := ps.map pairD) ?_ rfl s10) (xs_ret (ex_ret (w := .d (.bool true)) (σ1 := S7) ?_)))))))))))) rfl
  · rfl
  · rfl
  · rfl
  · show EV (n + 6) _ [some (.ref 1), some (.d (.tuple (ps.map pairD))), some (.d (.tuple (D.map pairD))), none, some (.d (.tuple (lg.map pairD))), none, none, none, none, none, none, none] S1 = _
    simp only [EV, ev, evs, R.bind, varW, List.getElem?_cons_zero, List.getElem?_cons_succ, o1, revW, pv, ok, o2, o3, lstW, dataOf, Option.map_some, List.length_cons, List.length_nil, lstAs, binW, bop]
    simp [k4, okO, onB]
  · rfl
  · show EV (n + 6) _ [some (.ref 1), some (.d (.tuple (ps.map pairD))), some (.d (.tuple (D.map pairD))), none, some (.d (.tuple (lg.map pairD))), some (.d (.tuple (TL.map pairD))), none, none, none, none, none, none] S4 = _
    unfold EV at s6
    simp only [EV, ev.eq_12, ev.eq_14, ev.eq_15, evs, ev.eq_1, R.bind, varW, List.getElem?_cons_zero, List.getElem?_cons_succ, s6, prim1, ok]
    simp [k6, onB, ok]
  · rfl
  · show EV (n + 6) _ [some (.ref 1), some (.d (.tuple (ps.map pairD))), some (.d (.tuple (D.map pairD))), none, some (.d (.tuple (lg.map pairD))), some (.d (.tuple (TL.map pairD))), some (.d (.tuple (F.map pairD))), some (.d (.list (shp.map fun r => PyData.tuple (r.map pairD)))), none, none, none, none] S7 = _
    simp only [List.map_nil] at eqF
    simp only [EV, ev, evs, R.bind, varW, List.getElem?_cons_zero, List.getElem?_cons_succ, sF, sT, compare2, cop2, eqS, okB, ok, onB, Option.map_some, tupW, dataOf, List.length_nil, Bool.not_true]
    simp only [Nat.zero_le, if_true, R.bind, eqF, Option.map_some, okB, onB, ok, inF]
    by_cases z : F = []
    · simp [z]
    · simp [z, fin z]
  · rfl
  · simp [exs, ex, ev, evs, evo, evt, R.st, R.bind, varW, startE, Ci.putAt, wipeE, index, seqOf, ok, okO, okB, atD, L2.atI, L2.ixN, binW, bop, negW, isaW, isaD, compare2, cop2, ints2, onS, onB, thenS, SR.out, errS, prim1, prim2, twoInts, p2I, tupW, lstW, lstAs, dataOf, unpS, putMany, aim]
end K3

end
section
set_option linter.all false
set_option autoImplicit false
set_option maxRecDepth 100000
set_option maxHeartbeats 1000000
namespace K3
open PySem Ci Po
theorem like_c (n : Nat) (d : PyData) (σ : List O) (h : (bare d && isSeqD d && decide (d.bulk ≤ 8000) && decide (d.depth ≤ 60)) = true) : run (n + 1) 25 [.d d, .d d] σ = .ok (.d (.bool true)) σ := by
  simp only [Bool.and_eq_true, decide_eq_true_eq] at h
  exact r_like n d σ h.1.1.1 h.1.1.2 h.1.2 h.2
theorem ex_app {n : Nat} {e : C} {ρ : Ev} {σ : List O} {S : List O} {xs : List PyData} {p : PyData} (h1 : ρ[1]? = some (some (.ref S.length))) (hs : σ = S ++ [.lst xs]) (hl : xs.length < 1000) (he : EV n e ρ σ = .ok (.d p) σ) : EX n (.app (.var 1) e) ρ σ = .next ρ (S ++ [.lst (xs ++ [p])]) := by
  subst hs
  have g := get_concat S (O.lst xs)
  have he : ev (run n) (lamOf gcK tab (run n)) (fun _ => .stuck) e ρ (S ++ [.lst xs]) = .ok (.d p) (S ++ [.lst xs]) := he
  have hl2 : xs.length < 100000 := by omega
  simp only [EX, ex, ev.eq_1, varW, h1, R.st, lstS, g, he, appW, if_pos hl2, set_concat, storeS]
theorem ex_lst1 {n : Nat} {e : C} {ρ : Ev} {S : List O} {p : PyData} (he : EV n e ρ S = .ok (.d p) S) : EX n (.set 1 (.lst true [e])) ρ S = .next (ρ.set 1 (some (.ref S.length))) (S ++ [.lst [p]]) := by
  have he : ev (run n) (lamOf gcK tab (run n)) (fun _ => .stuck) e ρ S = .ok (.d p) S := he
  refine ex_set (w := .ref S.length) (σ1 := S ++ [.lst [p]]) ?_
  simp only [EV, ev.eq_4, evs, he, R.bind, lstW, dataOf, Option.map_some, lstAs, newO, if_true]
  rfl
theorem ex_frz1 {n : Nat} {ρ : Ev} {S : List O} {xs : List PyData} (h1 : ρ[1]? = some (some (.ref S.length))) : EX n (.frz 1) ρ (S ++ [.lst xs]) = .next (ρ.set 1 (some (.d (.list xs)))) (S ++ [.dead]) := by
  have g := get_concat S (O.lst xs)
  simp only [EX, ex, frzW, h1, g, set_concat, Ci.putAt]
def lots : PyData := .tuple (List.replicate 61 (.tuple [.int 1, .int 0]))
def dirE (o : PyData) : PyData := .tuple [.str "direction", o, .bool true, .bool false]
def parE (o : PyData) : PyData := .tuple [.str "parameter", o, .bool true, .bool false]
def gotA : PyData := .list [.tuple [.tuple [.int 1, .int 0], .tuple [.int 1, .int 1], .tuple [.int (-1), .int 1], .tuple [.int 0, .int (-1)]], .tuple [.int 1, .int (-1)], .tuple [.int (-2), .int 1], .int 31, .tuple [], .bool true]
def gotB : List PyData := [parE lots, parE (.list [.tuple [.int 1, .int 0]]), dirE (.tuple [.int 0, .int 0]), parE .none]
def dueB : PyData := .list [parE lots, parE (.list [.tuple [.int 1, .int 0]]), dirE (.tuple [.int 0, .int 0])]
def odds : List PyData := [.tuple [.int 0, .int 0], .tuple [.int 1000001, .int 1], .tuple [.int 1, .bool false], .list [.int 1, .int 1], .int 5]
theorem likeA (n : Nat) (S : List O) : run (n + 1) 25 [.d gotA, .d gotA] S = .ok (.d (.bool true)) S := like_c n _ S (by decide +kernel)
theorem likeB (n : Nat) (S : List O) : run (n + 1) 25 [.d (.list gotB), .d (.list gotB)] S = .ok (.d (.bool true)) S := like_c n _ S (by decide +kernel)
theorem likeO (n : Nat) (o : PyData) (h : o ∈ odds) (S : List O) : run (n + 1) 25 [.d (.list [dirE o, dirE o, dirE o]), .d (.list [dirE o, dirE o, dirE o])] S = .ok (.d (.bool true)) S := by
  refine like_c n _ S ?_
  simp only [odds, List.mem_cons, List.not_mem_nil, or_false] at h
  rcases h with rfl | rfl | rfl | rfl | rfl <;> decide +kernel
section
variable (n : Nat) (S : List O) (a b c d e f : Option W)
theorem ref1 : EV (n + 6) (.lam 26 (.call 19 [.var 3])) [a, b, c, some (.d lots), d, e, f] S = .ok (.d (parE lots)) S := by kernel_rfl
theorem ref2 : EV (n + 6) (.lam 26 (.call 19 [(.lst false [(.tup [(.cst (.int 1)), (.cst (.int 0))])])])) [a, b, c, some (.d lots), d, e, f] S = .ok (.d (parE (.list [.tuple [.int 1, .int 0]]))) S := by kernel_rfl
theorem ref3 : EV (n + 6) (.lam 26 (.call 19 [(.tup [(.tup [(.cst (.int 1)), (.cst (.int 0))]), (.tup [(.cst (.int 0)), (.cst (.int 0))]), (.cst .none)])])) [a, b, c, some (.d lots), d, e, f] S = .ok (.d (dirE (.tuple [.int 0, .int 0]))) S := by kernel_rfl
theorem ref4 : EV (n + 6) (.lam 26 (.call 19 [(.cst .none)])) [a, b, c, some (.d lots), d, e, f] S = .ok (.d (parE .none)) S := by kernel_rfl
theorem refO (o : PyData) (h : o ∈ odds) : EV (n + 6) (.lam 26 (.call 12 [(.var 4)])) [a, b, c, d, some (.d o), e, f] S = .ok (.d (dirE o)) S ∧ EV (n + 6) (.lam 26 (.call 13 [(.var 4)])) [a, b, c, d, some (.d o), e, f] S = .ok (.d (dirE o)) S ∧ EV (n + 6) (.lam 26 (.call 8 [(.var 4)])) [a, b, c, d, some (.d o), e, f] S = .ok (.d (dirE o)) S := by
  simp only [odds, List.mem_cons, List.not_mem_nil, or_false] at h
  rcases h with rfl | rfl | rfl | rfl | rfl <;> refine ⟨?_, ?_, ?_⟩ <;> kernel_rfl
end
end K3

end
section
set_option linter.all false
set_option autoImplicit false
set_option maxRecDepth 100000
set_option maxHeartbeats 1000000
namespace K3
open PySem Ci Po
def odB : List S := [.set 1 (.lst true [(.lam 26 (.call 12 [(.var 4)]))]), .app (.var 1) (.lam 26 (.call 13 [(.var 4)])), .app (.var 1) (.lam 26 (.call 8 [(.var 4)])), .frz 1, .ite (.not_ (.call 25 [(.var 1), (.bin .mul (.lst false [(.tup [(.cst (.str "direction")), (.var 4), (.cst (.bool true)), (.cst (.bool false))])]) (.cst (.int 3)))])) [.ret (.cst (.bool false))] []]
theorem od1 (n : Nat) (o : PyData) (h : o ∈ odds) (S : List O) (a b c d e f : Option W) : XS (n + 6) odB [a, b, c, d, some (.d o), e, f] S = .next [a, some (.d (.list [dirE o, dirE o, dirE o])), c, d, some (.d o), e, f] (S ++ [.dead]) := by
  obtain ⟨r1, _, _⟩ := refO n S a b c d e f o h
  obtain ⟨_, r2, _⟩ := refO n (S ++ [.lst [dirE o]]) a (some (.ref S.length)) c d e f o h
  obtain ⟨_, _, r3⟩ := refO n (S ++ [.lst [dirE o, dirE o]]) a (some (.ref S.length)) c d e f o h
  have l := likeO (n + 5) o h (S ++ [.dead])
  refine xs_cons (ex_lst1 r1) (xs_cons (ex_app (S := S) (xs := [dirE o]) rfl rfl (by simp) r2) (xs_cons (ex_app (S := S) (xs := [dirE o, dirE o]) rfl rfl (by simp) r3) (xs_cons (ex_frz1 (xs := [dirE o, dirE o, dirE o]) rfl) (xs_cons (ex_ite_f (σ1 := S ++ [.dead]) ?_ xs_nil) xs_nil))))
  have m : EV (n + 6) (.bin .mul (.lst false [(.tup [(.cst (.str "direction")), (.var 4), (.cst (.bool true)), (.cst (.bool false))])]) (.cst (.int 3))) [a, some (.d (.list [dirE o, dirE o, dirE o])), c, d, some (.d o), e, f] (S ++ [.dead]) = .ok (.d (.list [dirE o, dirE o, dirE o])) (S ++ [.dead]) := by kernel_rfl
  have m : ev (run (n + 6)) (lamOf gcK tab (run (n + 6))) (fun _ => .stuck) (.bin .mul (.lst false [(.tup [(.cst (.str "direction")), (.var 4), (.cst (.bool true)), (.cst (.bool false))])]) (.cst (.int 3))) [a, some (.d (.list [dirE o, dirE o, dirE o])), c, d, some (.d o), e, f] (S ++ [.dead]) = .ok (.d (.list [dirE o, dirE o, dirE o])) (S ++ [.dead]) := m
  show ev _ _ _ _ [a, some (.d (.list [dirE o, dirE o, dirE o])), c, d, some (.d o), e, f] (S ++ [.dead]) = _
  simp only [ev.eq_12, ev.eq_14, evs, ev.eq_1, varW, List.getElem?_cons_zero, List.getElem?_cons_succ, R.bind, m, l, onB, ok]
theorem odAll (n : Nat) : ∀ (l : List PyData) (S : List O) (a b c d z e f : Option W), (∀ o ∈ l, o ∈ odds) → ∃ b' z' S', forL (aim (.one 4)) (fun ρ1 σ2 => XS (n + 6) odB ρ1 σ2) l [a, b, c, d, z, e, f] S = .next [a, b', c, d, z', e, f] S'
  | [], S, a, b, c, d, z, e, f, _ => ⟨b, z, S, rfl⟩
  | o :: l, S, a, b, c, d, z, e, f, h => by
    have e1 := od1 n o (h o List.mem_cons_self) S a b c d e f
    obtain ⟨b', z', S', q⟩ := odAll n l (S ++ [.dead]) a (some (.d (.list [dirE o, dirE o, dirE o]))) c d (some (.d o)) e f fun y hy => h y (List.mem_cons_of_mem _ hy)
    refine ⟨b', z', S', ?_⟩
    have ea : aim (.one 4) o [a, b, c, d, z, e, f] = some [a, b, c, d, some (.d o), e, f] := rfl
    simp only [forL, ea, e1]
    exact q
def l5 : List Pt := [(0, -2), (3, 0), (-1, 1), (1, 0), (1, 1)]
def l60 : List Pt := (List.range 60).map fun (i : Nat) => ((1, 0 + (i : Int)) : Pt)
theorem l5_ok : ∀ y ∈ l5, Ok y := by
  intro y hy
  simp only [l5, List.mem_cons, List.not_mem_nil, or_false] at hy
  rcases hy with rfl | rfl | rfl | rfl | rfl <;> (unfold Ok nz; decide)
theorem l5_srt : srt (l5.map pl) = [(1, 0), (1, 1), (-1, 1), (0, -1)] := by decide +kernel
theorem l60_ok : ∀ y ∈ l60, Ok y := by
  intro y hy
  obtain ⟨i, hi, rfl⟩ := List.mem_map.mp hy
  have := List.mem_range.mp hi
  refine ⟨.inl (by show (1 : Int) ≠ 0; decide), by show (1 : Int).natAbs ≤ 999999; decide, ?_⟩
  show (0 + (i : Int)).natAbs ≤ 999999
  omega
theorem l60_len : l60.length = 60 := by decide +kernel
theorem l60_srt : srt (l60.map pl) = l60 := by decide +kernel
abbrev top : W := .d (.int 1000000)
def g2 : List PyData := [.tuple ([(1, 0), (1, 1), (-1, 1), (0, -1)].map pairD), .tuple [.int 1, .int (-1)]]
def g3 : List PyData := [.tuple ([(1, 0), (1, 1), (-1, 1), (0, -1)].map pairD), .tuple [.int 1, .int (-1)], .tuple [.int (-2), .int 1], .int 31, .tuple []]
def c2 : C := .lst false [(.call 19 [(.tup [(.tup [(.cst (.int 0)), (.neg (.cst (.int 2)))]), (.tup [(.cst (.int 3)), (.cst (.int 0))]), (.tup [(.neg (.cst (.int 1))), (.cst (.int 1))]), (.tup [(.cst (.int 1)), (.cst (.int 0))]), (.tup [(.cst (.int 1)), (.cst (.int 1))])])]), (.call 12 [(.tup [(.var 0), (.neg (.var 0))])])]
theorem bh2 (n : Nat) (S : List O) : EV (n + 6) c2 [some top, none, none, none, none, none, none] S = .ok (.d (.list g2)) (S ++ [.dead]) := by
  have o1 := r_in_order n l5 S l5_ok (by decide)
  rw [l5_srt] at o1
  have q1 : run (n + 6) 12 [.d (.tuple [.int 1000000, .int (-1000000)])] (S ++ [.dead]) = .ok (.d (.tuple [.int 1, .int (-1)])) (S ++ [.dead]) := by kernel_rfl
  have a1 : EV (n + 6) (.tup [(.tup [(.cst (.int 0)), (.neg (.cst (.int 2)))]), (.tup [(.cst (.int 3)), (.cst (.int 0))]), (.tup [(.neg (.cst (.int 1))), (.cst (.int 1))]), (.tup [(.cst (.int 1)), (.cst (.int 0))]), (.tup [(.cst (.int 1)), (.cst (.int 1))])]) [some top, none, none, none, none, none, none] S = .ok (.d (.tuple (l5.map pairD))) S := by kernel_rfl
  have a2 : EV (n + 6) (.tup [(.var 0), (.neg (.var 0))]) [some top, none, none, none, none, none, none] (S ++ [.dead]) = .ok (.d (.tuple [.int 1000000, .int (-1000000)])) (S ++ [.dead]) := by kernel_rfl
  unfold EV at a1 a2
  unfold c2 g2
  show ev _ _ _ _ _ _ = _
  simp only [ev.eq_4, ev.eq_14, evs, R.bind, a1, o1, a2, q1]
  kernel_rfl
def c3 : C := .bin .add (.var 1) (.lst false [(.call 13 [(.tup [(.cst (.int 1)), (.cst (.int 2))])]), (.call 10 [(.tup [(.cst (.int 2)), (.cst (.int 3))]), (.tup [(.cst (.int 5)), (.cst (.int 7))])]), (.call 19 [(.tup [])])])
theorem bh3 (n : Nat) (S1 : List O) : EV (n + 6) c3 [some top, some (.d (.list g2)), none, none, none, none, none] S1 = .ok (.d (.list g3)) (S1 ++ [.dead]) := by
  have q2 : run (n + 6) 13 [.d (.tuple [.int 1, .int 2])] S1 = .ok (.d (.tuple [.int (-2), .int 1])) S1 := by kernel_rfl
  have q3 : run (n + 6) 10 [.d (.tuple [.int 2, .int 3]), .d (.tuple [.int 5, .int 7])] S1 = .ok (.d (.int 31)) S1 := by kernel_rfl
  have o2 := r_in_order n [] S1 (by simp) (by decide)
  have o2 : run (n + 6) 19 [.d (.tuple [])] S1 = .ok (.d (.tuple [])) (S1 ++ [.dead]) := o2
  have a3 : EV (n + 6) (.tup [(.cst (.int 1)), (.cst (.int 2))]) [some top, some (.d (.list g2)), none, none, none, none, none] S1 = .ok (.d (.tuple [.int 1, .int 2])) S1 := by kernel_rfl
  have a4 : EV (n + 6) (.tup [(.cst (.int 2)), (.cst (.int 3))]) [some top, some (.d (.list g2)), none, none, none, none, none] S1 = .ok (.d (.tuple [.int 2, .int 3])) S1 := by kernel_rfl
  have a5 : EV (n + 6) (.tup [(.cst (.int 5)), (.cst (.int 7))]) [some top, some (.d (.list g2)), none, none, none, none, none] S1 = .ok (.d (.tuple [.int 5, .int 7])) S1 := by kernel_rfl
  have a6 : EV (n + 6) (.tup []) [some top, some (.d (.list g2)), none, none, none, none, none] S1 = .ok (.d (.tuple [])) S1 := by kernel_rfl
  unfold EV at a3 a4 a5 a6
  unfold c3
  show ev _ _ _ _ _ _ = _
  simp only [ev.eq_6, ev.eq_4, ev.eq_14, evs, ev.eq_1, varW, List.getElem?_cons_zero, List.getElem?_cons_succ, R.bind, a3, q2, a4, a5, q3, a6, o2]
  kernel_rfl
def cc : C := .comp false [5, 6] (.one 6) (.range1 (.cst (.int 60))) none (.tup [(.cst (.int 1)), (.var 6)])
theorem r60 : (List.range 60).map (fun (i : Nat) => PyData.int (0 + (i : Int))) = rangeD 0 60 := by kernel_rfl
theorem w60 : walkOf (.d (.list (rangeD 0 60))) = some ((List.range 60).map (fun (i : Nat) => PyData.int (0 + (i : Int)))) := by
  rw [r60]
  rfl
theorem m60 : (List.range 60).map (fun (i : Nat) => pairD (1, 0 + (i : Int))) = l60.map pairD := by
  unfold l60
  rw [List.map_map]
  rfl
theorem cm (n : Nat) (z0 z1 z2 z3 z4 z5 z6 : Option W) (S : List O) : EV (n + 6) cc [z0, z1, z2, z3, z4, z5, z6] S = .ok (.d (.list (l60.map pairD))) S := by
  rw [← m60]
  refine ev_comp (n := n + 6) (own := [5, 6]) (tg := .one 6) (it := .range1 (.cst (.int 60))) (e := .tup [(.cst (.int 1)), (.var 6)]) (σ := S) (σ1 := S) (w := .d (.list (rangeD 0 60))) (l := List.range 60) (fun (i : Nat) => PyData.int (0 + (i : Int))) (fun (i : Nat) => pairD (1, 0 + (i : Int))) ?_ w60 (by rw [List.length_range]; decide) (fun i hi => ?_)
  · exact ev_range1 (w := .d (.int 60)) (σ1 := S) (by simp only [EV, ev.eq_2, ok]) (range1_ok 60 (by decide) S)
  · refine ⟨[z0, z1, z2, z3, z4, none, some (.d (.int (0 + (i : Int))))], rfl, ?_⟩
    simp only [EV, ev.eq_3, evs, ev.eq_1, ev.eq_2, varW, List.getElem?_cons_zero, List.getElem?_cons_succ, R.bind, ok, tupW, dataOf, Option.map_some]
    rfl
def c4 : C := .bin .add (.var 1) (.lst false [(.cmp .eq (.call 19 [(.p1 .tuple_ cc)]) (.p1 .tuple_ cc))])
theorem gA : g3 ++ [.bool true] = (match gotA with | .list xs => xs | _ => []) := by kernel_rfl
theorem bh4 (n : Nat) (S2 : List O) : EV (n + 6) c4 [some top, some (.d (.list g3)), none, none, none, none, none] S2 = .ok (.d gotA) (S2 ++ [.dead]) := by
  have o3 := r_in_order n l60 S2 l60_ok (by rw [l60_len]; decide)
  rw [l60_srt] at o3
  have eq60 := eqD_pairsT l60 l60
  rw [decide_eq_true rfl] at eq60
  have k1 := cm n (some top) (some (.d (.list g3))) none none none none none S2
  have k2 := cm n (some top) (some (.d (.list g3))) none none none none none (S2 ++ [.dead])
  unfold EV at k1 k2
  have pt : ∀ (xs : List PyData) (S : List O), prim1 .tuple_ (.d (.list xs)) S = .ok (.d (.tuple xs)) S := fun _ _ => rfl
  unfold c4
  generalize l60.map pairD = ll at *
  show ev _ _ _ _ _ _ = _
  simp only [ev.eq_6, ev.eq_4, ev.eq_8, ev.eq_14, ev.eq_15, evs, ev.eq_1, varW, List.getElem?_cons_zero, List.getElem?_cons_succ, R.bind, k1, pt, o3, k2, compare2, cop2, eq60, okB, ok]
  kernel_rfl
def c5 : C := .lst false [(.tup [(.tup [(.cst (.int 1)), (.cst (.int 0))]), (.tup [(.cst (.int 1)), (.cst (.int 1))]), (.tup [(.neg (.cst (.int 1))), (.cst (.int 1))]), (.tup [(.cst (.int 0)), (.neg (.cst (.int 1)))])]), (.tup [(.cst (.int 1)), (.neg (.cst (.int 1)))]), (.tup [(.neg (.cst (.int 2))), (.cst (.int 1))]), (.cst (.int 31)), (.tup []), (.cst (.bool true))]
theorem ev_notlike {n : Nat} {c : C} {ρ : Ev} {σ : List O} {d : PyData} (h1 : ρ[1]? = some (some (.d d))) (hc : EV (n + 6) c ρ σ = .ok (.d d) σ) (hl : run (n + 6) 25 [.d d, .d d] σ = .ok (.d (.bool true)) σ) : EV (n + 6) (.not_ (.call 25 [(.var 1), c])) ρ σ = .ok (.d (.bool false)) σ := by
  unfold EV at hc
  show ev _ _ _ _ _ _ = _
  simp only [ev.eq_12, ev.eq_14, evs, ev.eq_1, varW, h1, R.bind, hc, hl, onB, ok]
theorem bh5 (n : Nat) (S3 : List O) : EV (n + 6) c5 [some top, some (.d gotA), none, none, none, none, none] S3 = .ok (.d gotA) S3 := by kernel_rfl
theorem bh6 (n : Nat) (S3 : List O) : EV (n + 6) (.bin .mul (.tup [(.tup [(.cst (.int 1)), (.cst (.int 0))])]) (.cst (.int 61))) [some top, some (.d gotA), none, none, none, none, none] S3 = .ok (.d lots) S3 := by kernel_rfl
theorem bh11 (n : Nat) (S : List O) (z : Option W) : EV (n + 6) (.lst false [(.tup [(.cst (.str "parameter")), (.var 3), (.cst (.bool true)), (.cst (.bool false))]), (.tup [(.cst (.str "parameter")), (.lst false [(.tup [(.cst (.int 1)), (.cst (.int 0))])]), (.cst (.bool true)), (.cst (.bool false))]), (.tup [(.cst (.str "direction")), (.tup [(.cst (.int 0)), (.cst (.int 0))]), (.cst (.bool true)), (.cst (.bool false))])]) [some top, z, none, some (.d lots), none, none, none] S = .ok (.d dueB) S := by kernel_rfl
theorem bh13 (n : Nat) (S : List O) : EV (n + 6) (.bin .add (.var 2) (.lst false [(.tup [(.cst (.str "parameter")), (.cst .none), (.cst (.bool true)), (.cst (.bool false))])])) [some top, some (.d (.list gotB)), some (.d dueB), some (.d lots), none, none, none] S = .ok (.d (.list gotB)) S := by kernel_rfl
theorem bh14 (n : Nat) (S : List O) : EV (n + 6) (.tup [(.tup [(.cst (.int 0)), (.cst (.int 0))]), (.tup [(.bin .add (.var 0) (.cst (.int 1))), (.cst (.int 1))]), (.tup [(.cst (.int 1)), (.cst (.bool false))]), (.lst false [(.cst (.int 1)), (.cst (.int 1))]), (.cst (.int 5))]) [some top, some (.d (.list gotB)), some (.d dueB), some (.d lots), none, none, none] S = .ok (.d (.tuple odds)) S := by kernel_rfl
theorem bh1 (n : Nat) (S : List O) : EV (n + 6) (.bin .pow (.cst (.int 10)) (.cst (.int 6))) [none, none, none, none, none, none, none] S = .ok top S := by kernel_rfl
end K3

end
section
set_option linter.all false
set_option autoImplicit false
set_option maxRecDepth 100000
set_option maxHeartbeats 1000000
namespace K3
open PySem Ci Po
theorem r_by_hand (n : Nat) (S : List O) : ∃ S', run (n + 7) 33 [] S = .ok (.d (.bool true)) S' := by
  obtain ⟨b', z', S', e15⟩ := odAll n odds (S ++ [.dead] ++ [.dead] ++ [.dead] ++ [.dead]) (some top) (some (.d (.list gotB))) (some (.d dueB)) (some (.d lots)) none none none fun o h => h
  have e2 := bh2 n S
  generalize hS1 : S ++ [O.dead] = S1 at *
  have e3 := bh3 n S1
  generalize hS2 : S1 ++ [O.dead] = S2 at *
  have e4 := bh4 n S2
  generalize hS3 : S2 ++ [O.dead] = S3 at *
  have e5 := ev_notlike rfl (bh5 n S3) (likeA (n + 5) S3)
  have r1 := ref1 n S3 (some top) (some (.d gotA)) none none none none
  have r2 := ref2 n (S3 ++ [.lst [parE lots]]) (some top) (some (.ref S3.length)) none none none none
  have r3 := ref3 n (S3 ++ [.lst [parE lots, parE (.list [.tuple [.int 1, .int 0]])]]) (some top) (some (.ref S3.length)) none none none none
  have r4 := ref4 n (S3 ++ [.lst [parE lots, parE (.list [.tuple [.int 1, .int 0]]), dirE (.tuple [.int 0, .int 0])]]) (some top) (some (.ref S3.length)) none none none none
  have e11 := bh11 n (S3 ++ [.lst gotB]) (some (.ref S3.length))
  have e13 := ev_notlike (n := n) rfl (bh13 n (S3 ++ [.dead])) (likeB (n + 5) (S3 ++ [.dead]))
  have e14 := bh14 n (S3 ++ [.dead])
  refine ⟨S', run_by (r := .ret (.d (.bool true)) S') t__law_by_hand rfl ?_ rfl⟩
  refine xs_cons (ρ1 := [some top, none, none, none, none, none, none]) (ex_set (bh1 n S)) ?_
  refine xs_cons (ρ1 := [some top, some (.d (.list g2)), none, none, none, none, none]) (ex_set e2) ?_
  refine xs_cons (ρ1 := [some top, some (.d (.list g3)), none, none, none, none, none]) (ex_set e3) ?_
  refine xs_cons (ρ1 := [some top, some (.d gotA), none, none, none, none, none]) (ex_set e4) ?_
  refine xs_cons (ex_ite_f e5 xs_nil) ?_
  refine xs_cons (ρ1 := [some top, some (.d gotA), none, some (.d lots), none, none, none]) (ex_set (bh6 n S3)) ?_
  refine xs_cons (ρ1 := [some top, some (.ref S3.length), none, some (.d lots), none, none, none]) (ex_lst1 r1) ?_
  refine xs_cons (ex_app (S := S3) (xs := [parE lots]) rfl rfl (by simp) r2) ?_
  refine xs_cons (ex_app (S := S3) (xs := [parE lots, parE (.list [.tuple [.int 1, .int 0]])]) rfl rfl (by simp) r3) ?_
  refine xs_cons (ex_app (S := S3) (xs := [parE lots, parE (.list [.tuple [.int 1, .int 0]]), dirE (.tuple [.int 0, .int 0])]) rfl rfl (by simp) r4) ?_
  show XS (n + 6) _ _ (S3 ++ [O.lst gotB]) = _
  refine xs_cons (ρ1 := [some top, some (.ref S3.length), some (.d dueB), some (.d lots), none, none, none]) (σ1 := S3 ++ [.lst gotB]) (ex_set e11) ?_
  refine xs_cons (ρ1 := [some top, some (.d (.list gotB)), some (.d dueB), some (.d lots), none, none, none]) (ex_frz1 (xs := gotB) rfl) ?_
  refine xs_cons (ex_ite_f e13 xs_nil) ?_
  refine xs_cons (ex_for (b := odB) e14 rfl e15) ?_
  exact xs_ret (ex_ret (w := .d (.bool true)) (σ1 := S') rfl)
def laB : List S := [.ite (.not_ (.call 32 [(.var 1)])) [.ret (.cst (.bool false))] []]
theorem laAll (n : Nat) (a : Option W) : ∀ (l : List PyData) (m : Int) (S : List O) (z : Option W), Inv m S → m + 31 * (l.length : Nat) < 80000 → ∃ z' S', forL (aim (.one 2)) (fun ρ1 σ2 => XS (n + 7) laB ρ1 σ2) l [a, some (.ref 1), z] S = .next [a, some (.ref 1), z'] S'
  | [], m, S, z, _, _ => ⟨z, S, rfl⟩
  | x :: l, m, S, z, h, hm => by
    have hm' : m + 31 * (l.length : Nat) + 31 < 80000 := by
      have : (x :: l).length = l.length + 1 := rfl
      rw [this] at hm
      omega
    obtain ⟨S1, e1, i1⟩ := r_right n h (by omega)
    obtain ⟨z', S', q⟩ := laAll n a l (m + 31) S1 (some (.d x)) i1 (by omega)
    refine ⟨z', S', ?_⟩
    have ea : aim (.one 2) x [a, some (.ref 1), z] = some [a, some (.ref 1), some (.d x)] := rfl
    have eb : XS (n + 7) laB [a, some (.ref 1), some (.d x)] S = .next [a, some (.ref 1), some (.d x)] S1 := by
      refine xs_cons (ex_ite_f (σ1 := S1) ?_ xs_nil) xs_nil
      show ev _ _ _ _ _ _ = _
      simp only [ev.eq_12, ev.eq_14, evs, ev.eq_1, varW, List.getElem?_cons_zero, List.getElem?_cons_succ, R.bind, e1, onB, ok]
    simp only [forL, ea, eb]
    exact q
theorem r_law (n : Nat) (ns : List Int) (hl : ns.length ≤ 63) : ∃ S', run (n + 8) 34 [.scr (ns.map .int)] [] = .ok (.d (.bool true)) S' := by
  obtain ⟨cells, lefts, e1, h1, h2, h3⟩ := r_begin (n + 6) ns hl
  have i0 : Inv 0 (St cells lefts 0 []) := ⟨cells, lefts, 0, [], rfl, h1, by omega, h3, by decide, by decide⟩
  obtain ⟨z', S1, e2⟩ := laAll n (some (.scr (ns.map .int))) (rangeD 0 3) 0 (St cells lefts 0 []) none i0 (by decide)
  obtain ⟨S', e3⟩ := r_by_hand n S1
  refine ⟨S', run_by t_law rfl (xs_cons (ex_set (ev_call (evs_1 (w := .scr (ns.map .int)) (σ1 := []) rfl) e1)) (xs_cons (ex_for (b := laB) (w := .d (.list (rangeD 0 3))) (σ1 := St cells lefts 0 []) (xs := rangeD 0 3) rfl rfl e2) (xs_ret (ex_ret (ev_call (ws := []) (σ1 := S1) rfl e3))))) rfl⟩
end K3

end
section
set_option Elab.async false
set_option linter.all false
set_option autoImplicit false
set_option maxRecDepth 100000
set_option maxHeartbeats 0
namespace K3
open PySem PySem.Spec PyProof.Rows L2
abbrev lawO : PySem.W.OpenLaw := PySem.Challenge.rw_allislands_k03_whole_directions_in_order
abbrev rowO : PySem.W.OpenRow := PySem.W.OpenLaw.row lawO
abbrev progO : Program := PySem.Challenge.pw_allislands_k03_whole_directions_in_order
def topS (i : Nat) : Stmt := progO.main.body.getD i (.Pass ⟨0, 0, 0, 0⟩)
def nmsA : List Str := ["is_integer", "is_number", "are_two", "is_pair", "is_tuple_of", "is_place", "need_place", "is_direction", "need_direction", "inner", "dot", "made_plain", "least_direction", "turned_left", "is_first_half", "crossed", "comes_before", "how_many_before", "put_in_order", "in_order"]
def nmsB : List Str := ["_law_mixed", "_law_begin", "_law_draw", "_law_of", "_law_divisor", "_law_like", "_law_heard", "_law_toward", "_law_plainly", "_law_half", "_law_ahead", "_law_sorted", "_law_right", "_law_by_hand", "law"]
def nms : List Str := nmsA ++ nmsB
def atS : List Nat := [10, 11, 12, 13, 14, 19, 20, 21, 22, 23, 24, 25, 26, 27, 28, 29, 30, 31, 32, 33, 35, 36, 37, 38, 39, 40, 41, 42, 43, 44, 45, 46, 47, 48, 49]
def dD (i : Nat) : He.DefD := ⟨(nms.getD i "", none), nms.getD i "", nms.getD i "", defArgs (topS (atS.getD i 0)), defBody (topS (atS.getD i 0)), defScope (topS (atS.getD i 0)), [], []⟩
def clI : List Str := ["BadPlace", "BadIsland", "BadDirection", "BadParameter", "TooGreat"]
def clA : List Str := ["BadPlace", "BadIsland", "BadDirection", "BadParameter", "TooGreat", "NoRow", "IslandError"]
def clAt : List Nat := [3, 4, 5, 6, 8]
def dC (i : Nat) : He.DefD := ⟨(clI.getD i "", some "__init__"), "__init__", clI.getD i "" ++ ".__init__", defArgs (inClass (topS (clAt.getD i 0)) 0), defBody (inClass (topS (clAt.getD i 0)) 0), defScope (inClass (topS (clAt.getD i 0)) 0), [], []⟩
def fnsO : List He.DefD := (List.range 35).map dD ++ (List.range 5).map dC
def bltO : List Str := ["len", "int", "tuple", "list", "max", "min", "sum", "sorted", "repr", "set", "range", "isinstance", "bool", "str"]
def fasO : List He.Fa := nms.map .glo ++ (clA.map .glo ++ (bltO.map .free ++ [.int "MOST_IN_PLACE" 1000000000, .int "MOST_IN_DIRECTION" 1000000, .int "MOST_DIRECTIONS" 60]))
def fldO (i : Nat) : Str := if i = 4 then "most" else "value"
/-- what is asked of an error's class -/
def oexB (K : PySem.W.Frag) (C : Addr) : Bool := (match K.lookup C with
  | some ⟨.type "type", _, .cls cd, sl⟩ => (match cd.mro, sl.toList with
    | .ref C' :: bm, [_, _, _, _, some (.builtin n), _] => C' == C && n == "ValueError.__new__" && !cd.hasDel && cd.hasDict && PySem.HandSPX.refsVE bm
    | _, _ => false)
  | _ => false) && (decide (PySem.W.findIn K (.ref C) "__setattr__" = some (some (.builtin "object.__setattr__"))) && (decide (PySem.W.subIn K (.ref C) (.type "BaseException") = some true) && (decide (PySem.W.typeIn K (.ref C) = some (.type "type")) && PySem.W.keepIn K (.ref C))))
def excB (K : PySem.W.Frag) (D : Addr) : Bool := decide (PySem.W.findIn K (.ref D) "__getattribute__" = some (some (.builtin "BaseException.__getattribute__"))) && (decide (PySem.W.findIn K (.ref D) "__getattr__" = some none) && (decide (PySem.W.subIn K (.ref D) (.type "BaseException") = some true) && (PySem.W.hasDictIn K D &&
  (decide (PySem.W.findIn K (.ref D) "__class__" = some (some (.builtin "object.__class__"))) && (decide (PySem.W.specialIn K (.builtin "object.__class__") "__get__" = some (some (.builtin "getset_descriptor.__get__"))) && (decide (PySem.W.takesIn K (.builtin "object.__class__") = some true) && decide (PySem.W.mroIn K D (.type "object") = some true)))))))
def mkB (K : PySem.W.Frag) (i : Nat) : Bool := oexB K (He.ga K (clI.getD i "")) && (decide (PySem.W.findIn K (.ref (He.ga K (clI.getD i ""))) "__init__" = some (some (.ref (He.ma K (He.ga K (clI.getD i "")) "__init__")))) &&
  (decide (PySem.W.findIn K (.ref (He.ga K (clI.getD i ""))) (fldO i) = some none) && decide (PySem.W.typeIn K (.ref (He.ma K (He.ga K (clI.getD i "")) "__init__")) = some (.type "function"))))
def clB (K : PySem.W.Frag) (i : Nat) : Bool := xfB K (He.ga K (clA.getD i "")) && excB K (He.ga K (clA.getD i ""))
def subB (K : PySem.W.Frag) (c k : Nat) : Bool := decide (PySem.W.exmOne K (.ref (He.ga K (clA.getD c ""))) (.ref (He.ga K (clA.getD k ""))) = some (c == k || k == 6)) && decide (PySem.W.kitOne K (.ref (He.ga K (clA.getD c ""))) (.ref (He.ga K (clA.getD k ""))) = some (c == k || k == 6))
def exO (K : PySem.W.Frag) : Bool := decide (PySem.W.nsIn K mainGlobals "gcd" = some (some (.builtin "math.gcd"))) && ((List.range 5).all (mkB K) && ((List.range 7).all (clB K) && (List.range 7).all fun c => (List.range 7).all (subB K c)))
def tfO : List He.Defn := [("_law_by_hand", none)]
abbrev hkO : PySem.W.Hook := He.hookX 5 fasO fnsO [] tfO exO
def obO (s : PySem.W.SharedT) : He.AlX := He.obsX 5 fasO fnsO [] tfO exO (HandSHeadRun.getT s)
theorem obO_eq (s : PySem.W.SharedT) : obO s = hkO.obs s.abs := He.obsX_eq (HandSHeadRun.getT_eq s)
def viewO : Program := PySem.W.view progO [0, 49]
def cnO : List Str := ["MOST_IN_PLACE", "MOST_IN_DIRECTION", "MOST_DIRECTIONS"]
def looseO : List Str := clA ++ (cnO ++ (nmsA ++ nmsB.take 14))
end K3

end
section
set_option Elab.async false
set_option linter.all false
set_option autoImplicit false
set_option maxRecDepth 100000
set_option maxHeartbeats 0
namespace K3
open PySem PySem.Spec PyProof.Rows L2
theorem runO (w : World) : HandSHeadRun.RunEqI rowO viewO hkO obO 4000 looseO w := by
  unfold HandSHeadRun.RunEqI
  kernel_rfl
end K3

end
section
set_option Elab.async false
set_option linter.all false
set_option autoImplicit false
set_option maxRecDepth 100000
set_option maxHeartbeats 0
namespace K3
open PySem PySem.Spec PyProof.Rows L2 Ci
def psL : List (List Str) := [(["value"] : List Str), (["value", "least", "most"] : List Str), (["value"] : List Str), (["value", "size"] : List Str), (["value", "least", "most"] : List Str), (["value"] : List Str), (["value"] : List Str), (["value"] : List Str), (["value"] : List Str), (["direction", "place"] : List Str), (["direction", "place"] : List Str), (["direction"] : List Str), (["direction"] : List Str), (["direction"] : List Str), (["direction"] : List Str), (["one", "other"] : List Str), (["one", "other"] : List Str), (["direction", "ordered"] : List Str), (["directions"] : List Str), (["directions"] : List Str), (["cell", "k"] : List Str), (["script"] : List Str), (["state", "limit"] : List Str), (["state", "some"] : List Str), (["one", "other"] : List Str), (["got", "due"] : List Str), (["call"] : List Str), (["state", "most"] : List Str), (["toward"] : List Str), (["toward"] : List Str), (["one_so", "two_so"] : List Str), (["towards"] : List Str), (["state"] : List Str), ([] : List Str), (["script"] : List Str)]
def nsL : List (List Str) := [(["value"] : List Str), (["value", "least", "most"] : List Str), (["value"] : List Str), (["value", "size"] : List Str), (["value", "least", "most"] : List Str), (["value"] : List Str), (["value"] : List Str), (["value"] : List Str), (["value"] : List Str), (["direction", "place"] : List Str), (["direction", "place"] : List Str), (["direction", "most"] : List Str), (["direction"] : List Str), (["direction"] : List Str), (["direction"] : List Str), (["one", "other"] : List Str), (["one", "other"] : List Str), (["direction", "ordered", "least", "most", "at"] : List Str), (["directions", "ordered", "direction"] : List Str), (["directions", "direction", ".0"] : List Str), (["cell", "k"] : List Str), (["script", "cells_so", ".0", "cell"] : List Str), (["state", "limit", "at", "place", "left", "number"] : List Str), (["state", "some"] : List Str), (["one", "other"] : List Str), (["got", "due"] : List Str), (["call", "told", "e"] : List Str), (["state", "most", "toward"] : List Str), (["toward", "size"] : List Str), (["toward"] : List Str), (["one_so", "two_so"] : List Str), (["towards", "found", "toward", "at", ".0", "near"] : List Str), (["state", "towards", "due", "toward", "longer", "turned_so", "far", "shapes_so", "got", ".0", "step", "at"] : List Str), (["top", "got", "due", "lots", "odd", ".0", "x"] : List Str), (["script", "state", "turn"] : List Str)]
def guO (f : Nat) : Bool := f == 25 || f == 32 || f == 33 || f == 34
def ixO (l : List Str) (x : Str) : Option Nat := l.findIdx? fun y => decide (y = x)
def ownO (x : Str) : Option Nat := match ixO nms x with
  | some i => if i = 26 then none else some i
  | none => none
def kwO (f : Nat) : Option (List Str) := if f = 12 ∨ f = 13 then some ["direction"] else if f = 19 then some ["directions"] else none
def gcO (x : Str) : Option Int := if x = "MOST_IN_PLACE" then some 1000000000 else if x = "MOST_IN_DIRECTION" then some 1000000 else if x = "MOST_DIRECTIONS" then some 60 else none
def bfO (x : Str) : Option P2 := if x = "gcd" then some .gcd else none
def locP : List (Nat × Nat) := [(87, 14), (103, 40), (184, 10), (192, 14)]
def fzO (p : Pos) : Option Str := if p.line = 90 ∧ p.col = 4 then some "ordered" else if (p.line = 189 ∧ p.col = 4) ∨ (p.line = 195 ∧ p.col = 8) then some "got" else none
def DO : StS where
  d := { own := ownO, kw := kwO, gu := guO, gcI := gcO, bl := fun x => bltO.contains x, bf := bfO, loc := fun p => locP.contains (p.line, p.col) }
  fz := fzO
  m := 40
  cls := ixO clI
  hcl := ixO clA
  fld := fun c => if c < 4 then some "value" else if c = 4 then some "most" else none
  gc := gcK
def hrO (f : Nat) (x : Str) : Option Nat := if f = 33 ∧ x = "_law_heard" then some 26 else none
def bodyO (f : Nat) : List Stmt := defBody (topS (atS.getD f 0))
def scO (f : Nat) : Scope := defScope (topS (atS.getD f 0))
def psO (f : Nat) : List Str := psL.getD f []
def nsO (f : Nat) : List Str := nsL.getD f []
def fnO (f : Nat) : Fn := tabV.getD f ⟨0, 0, []⟩
/-- what is told of the f-th def -/
structure PF (f : Nat) : Prop where
  sc : FnScope (nsO f) (psO f) (scO f)
  tb : tab f = some ⟨(psO f).length, (nsO f).length, (fnO f).body⟩
  cs : cS_ DO 60 ⟨nsO f, scO f, fun _ => true, guO f, hrO f⟩ (bodyO f) = some (fnO f).body
  le : (psO f).length ≤ (nsO f).length
theorem pf0 : PF 0 := ⟨⟨rfl, rfl, rfl, by decide +kernel, rfl, by decide +kernel, by decide +kernel⟩, rfl, by kernel_rfl, by decide⟩
theorem pf1 : PF 1 := ⟨⟨rfl, rfl, rfl, by decide +kernel, rfl, by decide +kernel, by decide +kernel⟩, rfl, by kernel_rfl, by decide⟩
theorem pf2 : PF 2 := ⟨⟨rfl, rfl, rfl, by decide +kernel, rfl, by decide +kernel, by decide +kernel⟩, rfl, by kernel_rfl, by decide⟩
theorem pf3 : PF 3 := ⟨⟨rfl, rfl, rfl, by decide +kernel, rfl, by decide +kernel, by decide +kernel⟩, rfl, by kernel_rfl, by decide⟩
theorem pf4 : PF 4 := ⟨⟨rfl, rfl, rfl, by decide +kernel, rfl, by decide +kernel, by decide +kernel⟩, rfl, by kernel_rfl, by decide⟩
theorem pf5 : PF 5 := ⟨⟨rfl, rfl, rfl, by decide +kernel, rfl, by decide +kernel, by decide +kernel⟩, rfl, by kernel_rfl, by decide⟩
theorem pf6 : PF 6 := ⟨⟨rfl, rfl, rfl, by decide +kernel, rfl, by decide +kernel, by decide +kernel⟩, rfl, by kernel_rfl, by decide⟩
theorem pf7 : PF 7 := ⟨⟨rfl, rfl, rfl, by decide +kernel, rfl, by decide +kernel, by decide +kernel⟩, rfl, by kernel_rfl, by decide⟩
theorem pf8 : PF 8 := ⟨⟨rfl, rfl, rfl, by decide +kernel, rfl, by decide +kernel, by decide +kernel⟩, rfl, by kernel_rfl, by decide⟩
theorem pf9 : PF 9 := ⟨⟨rfl, rfl, rfl, by decide +kernel, rfl, by decide +kernel, by decide +kernel⟩, rfl, by kernel_rfl, by decide⟩
theorem pf10 : PF 10 := ⟨⟨rfl, rfl, rfl, by decide +kernel, rfl, by decide +kernel, by decide +kernel⟩, rfl, by kernel_rfl, by decide⟩
theorem pf11 : PF 11 := ⟨⟨rfl, rfl, rfl, by decide +kernel, rfl, by decide +kernel, by decide +kernel⟩, rfl, by kernel_rfl, by decide⟩
theorem pf12 : PF 12 := ⟨⟨rfl, rfl, rfl, by decide +kernel, rfl, by decide +kernel, by decide +kernel⟩, rfl, by kernel_rfl, by decide⟩
theorem pf13 : PF 13 := ⟨⟨rfl, rfl, rfl, by decide +kernel, rfl, by decide +kernel, by decide +kernel⟩, rfl, by kernel_rfl, by decide⟩
theorem pf14 : PF 14 := ⟨⟨rfl, rfl, rfl, by decide +kernel, rfl, by decide +kernel, by decide +kernel⟩, rfl, by kernel_rfl, by decide⟩
theorem pf15 : PF 15 := ⟨⟨rfl, rfl, rfl, by decide +kernel, rfl, by decide +kernel, by decide +kernel⟩, rfl, by kernel_rfl, by decide⟩
theorem pf16 : PF 16 := ⟨⟨rfl, rfl, rfl, by decide +kernel, rfl, by decide +kernel, by decide +kernel⟩, rfl, by kernel_rfl, by decide⟩
theorem pf17 : PF 17 := ⟨⟨rfl, rfl, rfl, by decide +kernel, rfl, by decide +kernel, by decide +kernel⟩, rfl, by kernel_rfl, by decide⟩
theorem pf18 : PF 18 := ⟨⟨rfl, rfl, rfl, by decide +kernel, rfl, by decide +kernel, by decide +kernel⟩, rfl, by kernel_rfl, by decide⟩
theorem pf19 : PF 19 := ⟨⟨rfl, rfl, rfl, by decide +kernel, rfl, by decide +kernel, by decide +kernel⟩, rfl, by kernel_rfl, by decide⟩
theorem pf20 : PF 20 := ⟨⟨rfl, rfl, rfl, by decide +kernel, rfl, by decide +kernel, by decide +kernel⟩, rfl, by kernel_rfl, by decide⟩
theorem pf21 : PF 21 := ⟨⟨rfl, rfl, rfl, by decide +kernel, rfl, by decide +kernel, by decide +kernel⟩, rfl, by kernel_rfl, by decide⟩
theorem pf22 : PF 22 := ⟨⟨rfl, rfl, rfl, by decide +kernel, rfl, by decide +kernel, by decide +kernel⟩, rfl, by kernel_rfl, by decide⟩
theorem pf23 : PF 23 := ⟨⟨rfl, rfl, rfl, by decide +kernel, rfl, by decide +kernel, by decide +kernel⟩, rfl, by kernel_rfl, by decide⟩
theorem pf24 : PF 24 := ⟨⟨rfl, rfl, rfl, by decide +kernel, rfl, by decide +kernel, by decide +kernel⟩, rfl, by kernel_rfl, by decide⟩
theorem pf25 : PF 25 := ⟨⟨rfl, rfl, rfl, by decide +kernel, rfl, by decide +kernel, by decide +kernel⟩, rfl, by kernel_rfl, by decide⟩
theorem pf27 : PF 27 := ⟨⟨rfl, rfl, rfl, by decide +kernel, rfl, by decide +kernel, by decide +kernel⟩, rfl, by kernel_rfl, by decide⟩
theorem pf28 : PF 28 := ⟨⟨rfl, rfl, rfl, by decide +kernel, rfl, by decide +kernel, by decide +kernel⟩, rfl, by kernel_rfl, by decide⟩
theorem pf29 : PF 29 := ⟨⟨rfl, rfl, rfl, by decide +kernel, rfl, by decide +kernel, by decide +kernel⟩, rfl, by kernel_rfl, by decide⟩
theorem pf30 : PF 30 := ⟨⟨rfl, rfl, rfl, by decide +kernel, rfl, by decide +kernel, by decide +kernel⟩, rfl, by kernel_rfl, by decide⟩
theorem pf31 : PF 31 := ⟨⟨rfl, rfl, rfl, by decide +kernel, rfl, by decide +kernel, by decide +kernel⟩, rfl, by kernel_rfl, by decide⟩
theorem pf32 : PF 32 := ⟨⟨rfl, rfl, rfl, by decide +kernel, rfl, by decide +kernel, by decide +kernel⟩, rfl, by kernel_rfl, by decide⟩
theorem pf33 : PF 33 := ⟨⟨rfl, rfl, rfl, by decide +kernel, rfl, by decide +kernel, by decide +kernel⟩, rfl, by kernel_rfl, by decide⟩
theorem pf34 : PF 34 := ⟨⟨rfl, rfl, rfl, by decide +kernel, rfl, by decide +kernel, by decide +kernel⟩, rfl, by kernel_rfl, by decide⟩
theorem pf : ∀ f, f < 35 → f ≠ 26 → PF f
  | 0, _, _ => pf0
  | 1, _, _ => pf1
  | 2, _, _ => pf2
  | 3, _, _ => pf3
  | 4, _, _ => pf4
  | 5, _, _ => pf5
  | 6, _, _ => pf6
  | 7, _, _ => pf7
  | 8, _, _ => pf8
  | 9, _, _ => pf9
  | 10, _, _ => pf10
  | 11, _, _ => pf11
  | 12, _, _ => pf12
  | 13, _, _ => pf13
  | 14, _, _ => pf14
  | 15, _, _ => pf15
  | 16, _, _ => pf16
  | 17, _, _ => pf17
  | 18, _, _ => pf18
  | 19, _, _ => pf19
  | 20, _, _ => pf20
  | 21, _, _ => pf21
  | 22, _, _ => pf22
  | 23, _, _ => pf23
  | 24, _, _ => pf24
  | 25, _, _ => pf25
  | 26, _, h => absurd rfl h
  | 27, _, _ => pf27
  | 28, _, _ => pf28
  | 29, _, _ => pf29
  | 30, _, _ => pf30
  | 31, _, _ => pf31
  | 32, _, _ => pf32
  | 33, _, _ => pf33
  | 34, _, _ => pf34
  | n + 35, h, _ => absurd h (by omega)
/-- how arguments are bound -/
structure BF (f : Nat) : Prop where
  b : ∀ (kV doc pm : Value) (an : Option Addr) (cdv ct : Value) (us : List Value), us.length = (psO f).length → bindArgs (PySem.W.fnOf (nms.getD f "") (nms.getD f "") (defArgs (topS (atS.getD f 0))) (bodyO f) (scO f) .none kV doc pm an cdv ct) ⟨us, []⟩ = pure ((psO f).zip us)
theorem bf0 : BF 0 := ⟨fun _ _ _ _ _ _ us hl => match us, hl with | [_], _ => rfl⟩
theorem bf1 : BF 1 := ⟨fun _ _ _ _ _ _ us hl => match us, hl with | [_, _, _], _ => rfl⟩
theorem bf2 : BF 2 := ⟨fun _ _ _ _ _ _ us hl => match us, hl with | [_], _ => rfl⟩
theorem bf3 : BF 3 := ⟨fun _ _ _ _ _ _ us hl => match us, hl with | [_, _], _ => rfl⟩
theorem bf4 : BF 4 := ⟨fun _ _ _ _ _ _ us hl => match us, hl with | [_, _, _], _ => rfl⟩
theorem bf5 : BF 5 := ⟨fun _ _ _ _ _ _ us hl => match us, hl with | [_], _ => rfl⟩
theorem bf6 : BF 6 := ⟨fun _ _ _ _ _ _ us hl => match us, hl with | [_], _ => rfl⟩
theorem bf7 : BF 7 := ⟨fun _ _ _ _ _ _ us hl => match us, hl with | [_], _ => rfl⟩
theorem bf8 : BF 8 := ⟨fun _ _ _ _ _ _ us hl => match us, hl with | [_], _ => rfl⟩
theorem bf9 : BF 9 := ⟨fun _ _ _ _ _ _ us hl => match us, hl with | [_, _], _ => rfl⟩
theorem bf10 : BF 10 := ⟨fun _ _ _ _ _ _ us hl => match us, hl with | [_, _], _ => rfl⟩
theorem bf11 : BF 11 := ⟨fun _ _ _ _ _ _ us hl => match us, hl with | [_], _ => rfl⟩
theorem bf12 : BF 12 := ⟨fun _ _ _ _ _ _ us hl => match us, hl with | [_], _ => rfl⟩
theorem bf13 : BF 13 := ⟨fun _ _ _ _ _ _ us hl => match us, hl with | [_], _ => rfl⟩
theorem bf14 : BF 14 := ⟨fun _ _ _ _ _ _ us hl => match us, hl with | [_], _ => rfl⟩
theorem bf15 : BF 15 := ⟨fun _ _ _ _ _ _ us hl => match us, hl with | [_, _], _ => rfl⟩
theorem bf16 : BF 16 := ⟨fun _ _ _ _ _ _ us hl => match us, hl with | [_, _], _ => rfl⟩
theorem bf17 : BF 17 := ⟨fun _ _ _ _ _ _ us hl => match us, hl with | [_, _], _ => rfl⟩
theorem bf18 : BF 18 := ⟨fun _ _ _ _ _ _ us hl => match us, hl with | [_], _ => rfl⟩
theorem bf19 : BF 19 := ⟨fun _ _ _ _ _ _ us hl => match us, hl with | [_], _ => rfl⟩
theorem bf20 : BF 20 := ⟨fun _ _ _ _ _ _ us hl => match us, hl with | [_, _], _ => rfl⟩
theorem bf21 : BF 21 := ⟨fun _ _ _ _ _ _ us hl => match us, hl with | [_], _ => rfl⟩
theorem bf22 : BF 22 := ⟨fun _ _ _ _ _ _ us hl => match us, hl with | [_, _], _ => rfl⟩
theorem bf23 : BF 23 := ⟨fun _ _ _ _ _ _ us hl => match us, hl with | [_, _], _ => rfl⟩
theorem bf24 : BF 24 := ⟨fun _ _ _ _ _ _ us hl => match us, hl with | [_, _], _ => rfl⟩
theorem bf25 : BF 25 := ⟨fun _ _ _ _ _ _ us hl => match us, hl with | [_, _], _ => rfl⟩
theorem bf26 : BF 26 := ⟨fun _ _ _ _ _ _ us hl => match us, hl with | [_], _ => rfl⟩
theorem bf27 : BF 27 := ⟨fun _ _ _ _ _ _ us hl => match us, hl with | [_, _], _ => rfl⟩
theorem bf28 : BF 28 := ⟨fun _ _ _ _ _ _ us hl => match us, hl with | [_], _ => rfl⟩
theorem bf29 : BF 29 := ⟨fun _ _ _ _ _ _ us hl => match us, hl with | [_], _ => rfl⟩
theorem bf30 : BF 30 := ⟨fun _ _ _ _ _ _ us hl => match us, hl with | [_, _], _ => rfl⟩
theorem bf31 : BF 31 := ⟨fun _ _ _ _ _ _ us hl => match us, hl with | [_], _ => rfl⟩
theorem bf32 : BF 32 := ⟨fun _ _ _ _ _ _ us hl => match us, hl with | [_], _ => rfl⟩
theorem bf33 : BF 33 := ⟨fun _ _ _ _ _ _ us hl => match us, hl with | [], _ => rfl⟩
theorem bf34 : BF 34 := ⟨fun _ _ _ _ _ _ us hl => match us, hl with | [_], _ => rfl⟩
theorem bf : ∀ f, f < 35 → BF f
  | 0, _ => bf0
  | 1, _ => bf1
  | 2, _ => bf2
  | 3, _ => bf3
  | 4, _ => bf4
  | 5, _ => bf5
  | 6, _ => bf6
  | 7, _ => bf7
  | 8, _ => bf8
  | 9, _ => bf9
  | 10, _ => bf10
  | 11, _ => bf11
  | 12, _ => bf12
  | 13, _ => bf13
  | 14, _ => bf14
  | 15, _ => bf15
  | 16, _ => bf16
  | 17, _ => bf17
  | 18, _ => bf18
  | 19, _ => bf19
  | 20, _ => bf20
  | 21, _ => bf21
  | 22, _ => bf22
  | 23, _ => bf23
  | 24, _ => bf24
  | 25, _ => bf25
  | 26, _ => bf26
  | 27, _ => bf27
  | 28, _ => bf28
  | 29, _ => bf29
  | 30, _ => bf30
  | 31, _ => bf31
  | 32, _ => bf32
  | 33, _ => bf33
  | 34, _ => bf34
  | n + 35, h => absurd h (by omega)
end K3

end
section
set_option Elab.async false
set_option linter.all false
set_option autoImplicit false
set_option maxRecDepth 100000
set_option maxHeartbeats 0
namespace K3
open PySem PySem.Spec PyProof.Rows L2 Ci
theorem band {a b : Bool} (h : (a && b) = true) : a = true ∧ b = true := Bool.and_eq_true_iff.mp h
theorem oexB_ok {K : PySem.W.Frag} {C : Addr} (h : oexB K C = true) : OexC K C := by
  unfold oexB at h
  obtain ⟨h1, h⟩ := band h
  obtain ⟨h2, h⟩ := band h
  obtain ⟨h3, h⟩ := band h
  obtain ⟨h4, h5⟩ := band h
  refine ⟨?_, of_decide_eq_true h2, of_decide_eq_true h3, of_decide_eq_true h4, h5⟩
  split at h1
  · rename_i dd cd sl ho
    split at h1
    · rename_i C' bm k0 k1 k2 k3 n k5 hm hs
      simp only [Bool.and_eq_true, beq_iff_eq, Bool.not_eq_true'] at h1
      obtain ⟨⟨⟨⟨rfl, rfl⟩, hdel⟩, hdc⟩, hr⟩ := h1
      obtain ⟨nm, bs, mro, ns, qn, hd, sn, sub, ab, col, del⟩ := cd
      dsimp only at hm hdel hdc
      subst hm hdel hdc
      have hsl : sl = #[k0, k1, k2, k3, some (.builtin "ValueError.__new__"), k5] := by
        obtain ⟨l⟩ := sl
        simp only at hs
        rw [hs]
      subst hsl
      exact ⟨nm, qn, ns, bs, bm, sn, sub, ab, col, dd, k0, k1, k2, k3, k5, ho, hr⟩
    · cases h1
  · cases h1
theorem excB_ok {K : PySem.W.Frag} {C : Addr} (h : excB K C = true) : ExcC K C := by
  unfold excB at h
  obtain ⟨h1, h⟩ := band h
  obtain ⟨h2, h⟩ := band h
  obtain ⟨h3, h⟩ := band h
  obtain ⟨h4, h⟩ := band h
  obtain ⟨h5, h⟩ := band h
  obtain ⟨h6, h⟩ := band h
  obtain ⟨h7, h8⟩ := band h
  exact ⟨of_decide_eq_true h1, of_decide_eq_true h2, of_decide_eq_true h3, h4, of_decide_eq_true h5, of_decide_eq_true h6, of_decide_eq_true h7, of_decide_eq_true h8⟩
def fdOf (K : PySem.W.Frag) (p : Str × Option Str) : FuncData := match K.lookup (He.fAd K p) with
  | some ⟨_, _, .func fd, _⟩ => fd
  | _ => PySem.W.fnOf "" "" ⟨[], [], none, [], [], none, []⟩ [] ⟨.function, [], false, false, []⟩ .none .none .none .none none .none .none
theorem fdOf_eq {K : PySem.W.Frag} {p : Str × Option Str} {oc : Value} {od : Option Addr} {fd : FuncData} {osl : Array (Option Value)} (h : K.lookup (He.fAd K p) = some ⟨oc, od, .func fd, osl⟩) : fdOf K p = fd := by
  unfold fdOf
  rw [h]
def fiO (K : PySem.W.Frag) (f : Nat) : FI := ⟨nms.getD f "", He.fAd K (nms.getD f "", none), fdOf K (nms.getD f "", none), psO f, f == 12 || f == 13 || f == 19, guO f⟩
def byT : Str := (("_law_by_hand" : Str) ++ ".<locals>.") ++ "<lambda>"
def GO (K : PySem.W.Frag) : Glob := { T := [((He.cT K ("_law_by_hand", none)).2, byT)], fi := fun f => if f < 35 ∧ f ≠ 26 then some (fiO K f) else none, clsA := fun c => He.ga K (clA.getD c ""), fldN := fun c => if c < 5 then some (fldO c) else none }
theorem fi_some {K : PySem.W.Frag} {f : Nat} {i : FI} (h : (GO K).fi f = some i) : f < 35 ∧ f ≠ 26 ∧ i = fiO K f := by
  have h : (if f < 35 ∧ f ≠ 26 then some (fiO K f) else none) = some i := h
  split at h
  · rename_i c
    exact ⟨c.1, c.2, (Option.some.inj h).symm⟩
  · cases h
theorem ix_some {l : List Str} {x : Str} {i : Nat} (h : ixO l x = some i) : i < l.length ∧ l.getD i "" = x := by
  obtain ⟨h1, h2, _⟩ := List.findIdx?_eq_some_iff_getElem.mp h
  refine ⟨h1, ?_⟩
  rw [List.getD_eq_getElem?_getD, List.getElem?_eq_getElem h1]
  exact of_decide_eq_true h2
section
variable {w : World} {h : Heap} {K : PySem.W.Frag} {mg : Str → Option Value} (X : K.In h) (Gm : h.Ns mainGlobals mg) (c : He.SaysX fasO fnsO [] tfO exO w h K)
include c in
theorem dd_ok (f : Nat) (hf : f < 35) : ∃ fd, FunD K (nms.getD f "") (nms.getD f "") (defArgs (topS (atS.getD f 0))) (bodyO f) (scO f) [] [] (He.fAd K (nms.getD f "", none)) fd :=
  c.t.d.defs (d := dD f) (List.mem_append_left _ (List.mem_map.mpr ⟨f, List.mem_range.mpr hf, rfl⟩))
include c in
theorem dc_ok (i : Nat) (hi : i < 5) : ∃ fd, FunD K "__init__" (clI.getD i "" ++ ".__init__") (defArgs (inClass (topS (clAt.getD i 0)) 0)) (defBody (inClass (topS (clAt.getD i 0)) 0)) (defScope (inClass (topS (clAt.getD i 0)) 0)) [] [] (He.fAd K (clI.getD i "", some "__init__")) fd :=
  c.t.d.defs (d := dC i) (List.mem_append_right _ (List.mem_map.mpr ⟨i, List.mem_range.mpr hi, rfl⟩))
include X Gm c in
theorem glo_of (f : Nat) (hf : f < 35) : mg (nms.getD f "") = some (.ref (He.fAd K (nms.getD f "", none))) := by
  have m : He.Fa.glo (nms.getD f "") ∈ fasO := by
    refine List.mem_append_left _ (List.mem_map.mpr ⟨nms.getD f "", ?_, rfl⟩)
    have hl : f < nms.length := hf
    rw [List.getD_eq_getElem?_getD, List.getElem?_eq_getElem hl]
    exact List.getElem_mem hl
  exact He.glo_ok X Gm (c.t.d.facts m)
include X Gm c in
theorem cls_of (i : Nat) (hi : i < 7) : mg (clA.getD i "") = some (.ref (He.ga K (clA.getD i ""))) := by
  have m : He.Fa.glo (clA.getD i "") ∈ fasO := by
    refine List.mem_append_right _ (List.mem_append_left _ (List.mem_map.mpr ⟨clA.getD i "", ?_, rfl⟩))
    have hl : i < clA.length := hi
    rw [List.getD_eq_getElem?_getD, List.getElem?_eq_getElem hl]
    exact List.getElem_mem hl
  exact He.glo_ok X Gm (c.t.d.facts m)
theorem cl_same : ∀ i, i < 5 → clI.getD i "" = clA.getD i ""
  | 0, _ => rfl
  | 1, _ => rfl
  | 2, _ => rfl
  | 3, _ => rfl
  | 4, _ => rfl
  | n + 5, h => absurd h (by omega)
/-- an error's __init__ in the text -/
theorem init_txt : ∀ i, i < 5 → (∃ p1 p2 p3 pos, defBody (inClass (topS (clAt.getD i 0)) 0) = [.Assign [.Attribute (.Name "self" p1) (fldO i) p2] (.Name (fldO i) p3) pos]) ∧ FnScope ["self", fldO i] ["self", fldO i] (defScope (inClass (topS (clAt.getD i 0)) 0)) ∧
    visB (defScope (inClass (topS (clAt.getD i 0)) 0)) "self" = true ∧ visB (defScope (inClass (topS (clAt.getD i 0)) 0)) (fldO i) = true ∧ Ci.nmB (fldO i) = true ∧
    ∀ (body : List Stmt) (scope : Scope) (kV doc pm : Value) (an : Option Addr) (cdv ct : Value) (us : List Value), us.length = 2 → bindArgs (PySem.W.fnOf "__init__" (clI.getD i "" ++ ".__init__") (defArgs (inClass (topS (clAt.getD i 0)) 0)) body scope .none kV doc pm an cdv ct) ⟨us, []⟩ = pure ((["self", fldO i] : List Str).zip us)
  | 0, _ => ⟨⟨_, _, _, _, rfl⟩, ⟨rfl, rfl, rfl, by decide +kernel, rfl, by decide +kernel, by decide +kernel⟩, by decide +kernel, by decide +kernel, by decide +kernel, fun _ _ _ _ _ _ _ _ us hl => match us, hl with | [_, _], _ => rfl⟩
  | 1, _ => ⟨⟨_, _, _, _, rfl⟩, ⟨rfl, rfl, rfl, by decide +kernel, rfl, by decide +kernel, by decide +kernel⟩, by decide +kernel, by decide +kernel, by decide +kernel, fun _ _ _ _ _ _ _ _ us hl => match us, hl with | [_, _], _ => rfl⟩
  | 2, _ => ⟨⟨_, _, _, _, rfl⟩, ⟨rfl, rfl, rfl, by decide +kernel, rfl, by decide +kernel, by decide +kernel⟩, by decide +kernel, by decide +kernel, by decide +kernel, fun _ _ _ _ _ _ _ _ us hl => match us, hl with | [_, _], _ => rfl⟩
  | 3, _ => ⟨⟨_, _, _, _, rfl⟩, ⟨rfl, rfl, rfl, by decide +kernel, rfl, by decide +kernel, by decide +kernel⟩, by decide +kernel, by decide +kernel, by decide +kernel, fun _ _ _ _ _ _ _ _ us hl => match us, hl with | [_, _], _ => rfl⟩
  | 4, _ => ⟨⟨_, _, _, _, rfl⟩, ⟨rfl, rfl, rfl, by decide +kernel, rfl, by decide +kernel, by decide +kernel⟩, by decide +kernel, by decide +kernel, by decide +kernel, fun _ _ _ _ _ _ _ _ us hl => match us, hl with | [_, _], _ => rfl⟩
  | n + 5, h => absurd h (by omega)
include c in
theorem ex_parts : (PySem.W.nsIn K mainGlobals "gcd" = some (some (.builtin "math.gcd"))) ∧ (∀ i, i < 5 → mkB K i = true) ∧ (∀ i, i < 7 → clB K i = true) ∧ ∀ a b, a < 7 → b < 7 → subB K a b = true := by
  have e := c.more
  unfold exO at e
  obtain ⟨e1, e⟩ := band e
  obtain ⟨e2, e⟩ := band e
  obtain ⟨e3, e4⟩ := band e
  exact ⟨of_decide_eq_true e1, fun i hi => List.all_eq_true.mp e2 i (List.mem_range.mpr hi), fun i hi => List.all_eq_true.mp e3 i (List.mem_range.mpr hi), fun a b ha hb => List.all_eq_true.mp (List.all_eq_true.mp e4 a (List.mem_range.mpr ha)) b (List.mem_range.mpr hb)⟩
theorem kb12 (kV doc pm : Value) (an : Option Addr) (cdv ct v : Value) : bindArgs (PySem.W.fnOf (nms.getD 12 "") (nms.getD 12 "") (defArgs (topS (atS.getD 12 0))) (bodyO 12) (scO 12) .none kV doc pm an cdv ct) ⟨[], (psO 12).zip [v]⟩ = pure ((psO 12).zip [v]) := rfl
theorem kb13 (kV doc pm : Value) (an : Option Addr) (cdv ct v : Value) : bindArgs (PySem.W.fnOf (nms.getD 13 "") (nms.getD 13 "") (defArgs (topS (atS.getD 13 0))) (bodyO 13) (scO 13) .none kV doc pm an cdv ct) ⟨[], (psO 13).zip [v]⟩ = pure ((psO 13).zip [v]) := rfl
theorem kb19 (kV doc pm : Value) (an : Option Addr) (cdv ct v : Value) : bindArgs (PySem.W.fnOf (nms.getD 19 "") (nms.getD 19 "") (defArgs (topS (atS.getD 19 0))) (bodyO 19) (scO 19) .none kV doc pm an cdv ct) ⟨[], (psO 19).zip [v]⟩ = pure ((psO 19).zip [v]) := rfl
include X Gm c in
theorem fok (f : Nat) (hf : f < 35) : FOk K mg (fiO K f) := by
  obtain ⟨fd, F⟩ := dd_ok c f hf
  obtain ⟨oc, od, dV, kV, doc, pm, an, cdv, ct, osl, efd, lk, hcd, hD, _⟩ := F.ex
  have e : fdOf K (nms.getD f "", none) = fd := fdOf_eq lk
  have hD : dV = .none := by
    rcases hD with ⟨_, q⟩ | ⟨q, _⟩
    · exact q
    · exact absurd rfl q
  subst hD
  refine ⟨glo_of X Gm c f hf, F.kp, ?_, ?_⟩
  · show Binds K (fdOf K (nms.getD f "", none)) (psO f) []
    rw [e]
    exact F.bindsN (bf f hf).b
  · intro hk s ws _ hl
    show BindsTo s (fdOf K (nms.getD f "", none)) ⟨[], (psO f).zip ws⟩ ((psO f).zip ws)
    rw [e, efd]
    have hl : ws.length = (psO f).length := hl
    have hk : (f == 12 || f == 13 || f == 19) = true := hk
    simp only [Bool.or_eq_true, beq_iff_eq] at hk
    rcases hk with (rfl | rfl) | rfl
    · match ws, hl with
      | [v], _ => exact .of_eq (kb12 kV doc pm an cdv ct v)
    · match ws, hl with
      | [v], _ => exact .of_eq (kb13 kV doc pm an cdv ct v)
    · match ws, hl with
      | [v], _ => exact .of_eq (kb19 kV doc pm an cdv ct v)
end
end K3

end
section
set_option Elab.async false
set_option linter.all false
set_option autoImplicit false
set_option maxRecDepth 100000
set_option maxHeartbeats 0
namespace K3
open PySem PySem.Spec PyProof.Rows L2 Ci
def hsO : List Hd := match (fnO 26).body with
  | .try_ _ hs :: _ => hs
  | _ => []
section
variable {P : Program} {w : World} {h : Heap} {K : PySem.W.Frag} {mg : Str → Option Value} {base : Heap} (X : K.In h) (Gm : h.Ns mainGlobals mg) (c : He.SaysX fasO fnsO [] tfO exO w h K)
include X Gm c in
theorem prg : @Prg DO (GO K) P w K mg base := by
  obtain ⟨g1, g2, g3, g4⟩ := ex_parts c
  refine ⟨fun x hx => ?_, fun x p hx => ?_, fun x i hx => ?_, fun x f hx => ?_, fun x ci hx => ?_, fun x ci hx => ?_, ⟨fun a b s hs => ?_, fun a b s hs => ?_, fun a ha => ?_⟩⟩
  · have hx : bltO.contains x = true := hx
    have m : He.Fa.free x ∈ fasO := List.mem_append_right _ (List.mem_append_right _ (List.mem_append_left _ (List.mem_map.mpr ⟨x, by simpa using hx, rfl⟩)))
    exact He.free_ok X Gm (c.t.d.facts m)
  · have hx : bfO x = some p := hx
    unfold bfO at hx
    split at hx
    · rename_i q
      subst q
      cases hx
      exact ⟨"math.gcd", rfl, PySem.W.mg_of X Gm g1⟩
    · cases hx
  · have hx : gcO x = some i := hx
    unfold gcO at hx
    have t : ∀ (y : Str) (j : Int), He.Fa.int y j ∈ fasO → ∃ t, mg y = some (.int j t) := fun y j m => He.int_ok X Gm (c.t.d.facts m)
    split at hx
    · rename_i q
      subst q
      cases hx
      exact t _ _ (List.mem_append_right _ (List.mem_append_right _ (List.mem_append_right _ (List.mem_cons_self))))
    · split at hx
      · rename_i q
        subst q
        cases hx
        exact t _ _ (List.mem_append_right _ (List.mem_append_right _ (List.mem_append_right _ (List.mem_cons_of_mem _ List.mem_cons_self))))
      · split at hx
        · rename_i q
          subst q
          cases hx
          exact t _ _ (List.mem_append_right _ (List.mem_append_right _ (List.mem_append_right _ (List.mem_cons_of_mem _ (List.mem_cons_of_mem _ List.mem_cons_self)))))
        · cases hx
  · have hx : ownO x = some f := hx
    unfold ownO at hx
    split at hx
    · rename_i j hj
      split at hx
      · cases hx
      · rename_i nj
        cases hx
        obtain ⟨l1, l2⟩ := ix_some hj
        have l1 : f < 35 := l1
        refine ⟨fiO K f, if_pos ⟨l1, nj⟩, l2, fok X Gm c f l1, rfl, fun ps hp => ?_⟩
        have hp : kwO f = some ps := hp
        unfold kwO at hp
        split at hp
        · rename_i q
          cases hp
          rcases q with rfl | rfl
          · exact ⟨rfl, rfl⟩
          · exact ⟨rfl, rfl⟩
        · split at hp
          · rename_i q
            cases hp
            subst q
            exact ⟨rfl, rfl⟩
          · cases hp
    · cases hx
  · have hx : ixO clI x = some ci := hx
    obtain ⟨l1, l2⟩ := ix_some hx
    have l1 : ci < 5 := l1
    obtain ⟨fd, F⟩ := dc_ok c ci l1
    obtain ⟨oc, od, dV, kV, doc, pm, an, cdv, ct, osl, efd, lk, hcd, hD, _⟩ := F.ex
    have hD : dV = .none := by
      rcases hD with ⟨_, q⟩ | ⟨q, _⟩
      · exact q
      · exact absurd rfl q
    subst hD
    obtain ⟨⟨p1, p2, p3, pos, eb⟩, sc, v1, v2, n2, bb⟩ := init_txt ci l1
    have m := g2 ci l1
    unfold mkB at m
    obtain ⟨m1, m⟩ := band m
    obtain ⟨m2, m⟩ := band m
    obtain ⟨m3, m4⟩ := band m
    have e0 := cl_same ci l1
    have fa : He.fAd K (clI.getD ci "", some "__init__") = He.ma K (He.ga K (clI.getD ci "")) "__init__" := rfl
    rw [fa] at lk
    rw [efd, eb] at lk
    haveI : HasK := ⟨K⟩
    refine ⟨He.ga K (clA.getD ci ""), He.ma K (He.ga K (clI.getD ci "")) "__init__", _, ["self", fldO ci], fldO ci, rfl, if_pos l1, ?_, ?_, ?_, of_decide_eq_true m4, init_ok lk hcd sc rfl rfl v1 v2 (by decide) n2, ?_, ?_⟩
    · rw [← e0]
      exact oexB_ok m1
    · rw [← e0]
      exact of_decide_eq_true m2
    · rw [← e0]
      exact of_decide_eq_true m3
    · have b := F.bindsN (ps := ["self", fldO ci]) (bb _ _)
      rw [efd, eb] at b
      exact b
    · rw [← l2, e0]
      exact cls_of X Gm c ci (by omega)
  · have hx : ixO clA x = some ci := hx
    obtain ⟨l1, l2⟩ := ix_some hx
    have l1 : ci < 7 := l1
    have m := g3 ci l1
    unfold clB at m
    obtain ⟨m1, m2⟩ := band m
    refine ⟨by rw [← l2]; exact cls_of X Gm c ci l1, xfB_ok m1, excB_ok m2, fun f hf => ?_⟩
    have hf : (if ci < 4 then some ("value" : Str) else if ci = 4 then some "most" else none) = some f := hf
    have key : ci < 5 → fldO ci = f → (GO K).fldN ci = some f ∧ PySem.W.findIn K (.ref ((GO K).clsA ci)) f = some none := fun q e => by
      refine ⟨by rw [← e]; exact if_pos q, ?_⟩
      have m := g2 ci q
      unfold mkB at m
      obtain ⟨_, m⟩ := band m
      obtain ⟨_, m⟩ := band m
      obtain ⟨m3, _⟩ := band m
      rw [cl_same ci q, e] at m3
      exact of_decide_eq_true m3
    split at hf
    · rename_i q
      exact key (by omega) (by rw [← Option.some.inj hf]; unfold fldO; rw [if_neg (by omega)])
    · split at hf
      · rename_i q
        exact key (by omega) (by rw [← Option.some.inj hf]; unfold fldO; rw [if_pos q])
      · cases hf
  · have hs : (if a < 7 ∧ b < 7 then some (a == b || b == 6) else none) = some s := hs
    split at hs
    · rename_i q
      have m := g4 a b q.1 q.2
      unfold subB at m
      rw [← Option.some.inj hs]
      exact of_decide_eq_true (band m).1
    · cases hs
  · have hs : (if a < 7 ∧ b < 7 then some (a == b || b == 6) else none) = some s := hs
    split at hs
    · rename_i q
      have m := g4 a b q.1 q.2
      unfold subB at m
      rw [← Option.some.inj hs]
      exact of_decide_eq_true (band m).2
    · cases hs
  · have ha : decide (a < 5) = true := ha
    exact ⟨fldO a, if_pos (of_decide_eq_true ha)⟩
include X Gm c in
theorem hrd_ok (cdv : Value) (fdc : (fdOf K ("_law_by_hand", none)).code = cdv) (cref : ∃ cc, cdv = .ref cc) (lkb : ∃ oc od osl fd, K.lookup (He.fAd K ("_law_by_hand", none)) = some ⟨oc, od, .func fd, osl⟩) (TB : LamX.TabB base mg (He.cT K ("_law_by_hand", none)).1 (He.cT K ("_law_by_hand", none)).2) (x : Str) (fi : Nat) (hx : hrO 33 x = some fi) :
    HrdOk DO (GO K) P w K mg base tab "_law_by_hand" cdv (scO 33) x fi := by
  unfold hrO at hx
  split at hx
  · rename_i q
    cases hx
    obtain ⟨_, rfl⟩ := q
    obtain ⟨fd, F⟩ := dd_ok c 26 (by decide)
    obtain ⟨oc, od, dV, kV, doc, pm, an, cdg, ct, osl, efd, lk, hcd, hD, _⟩ := F.ex
    have hD : dV = .none := by
      rcases hD with ⟨_, q⟩ | ⟨q, _⟩
      · exact q
      · exact absurd rfl q
    subst hD
    have bd := F.bindsN (bf 26 (by decide)).b
    rw [efd] at lk bd
    obtain ⟨cc, rfl⟩ := cref
    obtain ⟨oc2, od2, osl2, fd2, lk2⟩ := lkb
    have e2 := fdOf_eq lk2
    rw [e2] at fdc
    have e3 : (He.cT K ("_law_by_hand", none)).1 = cc := He.codeOf_eq lk2 fdc
    rw [e3] at TB
    refine ⟨"call", He.fAd K ("_law_heard", none), cc, (He.cT K ("_law_by_hand", none)).2, _, _, _, _, doc, pm, cdg, ct, oc, an, od, osl, ["call", "told", "e"], fnO 26, "told", "told", _, _, 1, 60, _, _, _, _, _, _, _, _, _, _, hsO, [.ret (.var 1)],
      ⟨by decide +kernel, glo_of X Gm c 26 (by decide), F.kp, lk, hcd, bd, ⟨rfl, rfl, rfl, by decide +kernel, rfl, by decide +kernel, by decide +kernel⟩, rfl, Or.inl (by decide +kernel)⟩,
      ⟨TB, rfl, List.mem_singleton.mpr rfl, fun p hp _ => by rw [List.mem_singleton.mp hp] <;> rfl⟩, ⟨by decide +kernel, by decide +kernel, rfl, rfl, rfl, ?_, rfl, by decide +kernel, by decide⟩, ?_, ?_⟩
    · rfl
    · kernel_rfl
    · kernel_rfl
  · cases hx
end
end K3

end
section
set_option Elab.async false
set_option linter.all false
set_option autoImplicit false
set_option maxRecDepth 100000
set_option maxHeartbeats 0
namespace K3
open PySem PySem.Spec PyProof.Rows L2 Ci
section
variable {P : Program} {w : World} {h : Heap} {K : PySem.W.Frag} {mg : Str → Option Value} {base : Heap} (X : K.In h) (Gm : h.Ns mainGlobals mg) (c : He.SaysX fasO fnsO [] tfO exO w h K)
include X Gm c in
theorem defs_ok (TB : LamX.TabB base mg (He.cT K ("_law_by_hand", none)).1 (He.cT K ("_law_by_hand", none)).2) (f : Nat) (i : FI) (hf : (GO K).fi f = some i) : DefOk DO (GO K) P w K mg base tab f i := by
  obtain ⟨l1, l2, rfl⟩ := fi_some hf
  obtain ⟨fd, F⟩ := dd_ok c f l1
  obtain ⟨oc, od, dV, kV, doc, pm, an, cdv, ct, osl, efd, lk, hcd, hD, _⟩ := F.ex
  have e : fdOf K (nms.getD f "", none) = fd := fdOf_eq lk
  have p := pf f l1 l2
  have lk2 : K.lookup (He.fAd K (nms.getD f "", none)) = some ⟨oc, od, .func fd, osl⟩ := lk
  refine ⟨nms.getD f "", nms.getD f "", defArgs (topS (atS.getD f 0)), bodyO f, scO f, dV, kV, doc, pm, cdv, ct, oc, an, od, osl, nsO f, (fnO f).body, hrO f, 60, ?_, ?_, hcd, p.sc, p.tb, p.cs, p.le, ?_⟩
  · show K.lookup (He.fAd K (nms.getD f "", none)) = some ⟨oc, od, .func (fdOf K (nms.getD f "", none)), osl⟩
    rw [e]
    exact lk
  · show fdOf K (nms.getD f "", none) = _
    rw [e]
    exact efd
  · intro x fi hx
    by_cases q : f = 33
    · subst q
      have q1 : nms.getD 33 "" = ("_law_by_hand" : Str) := rfl
      rw [q1] at hcd lk2 e ⊢
      refine hrd_ok X Gm c cdv ?_ ?_ ⟨oc, od, osl, fd, lk2⟩ TB x fi hx
      · rw [e, efd]
      · exact He.codeIn_ref hcd
    · unfold hrO at hx
      rw [if_neg (fun z => q z.1)] at hx
      cases hx
include X Gm c in
theorem law_at (fa : Addr) (hmg : mg ("law" : Str) = some (.ref fa)) : LawAtG lawO w 32 63 "script" mg fa h := by
  obtain ⟨fd, F⟩ := dd_ok c 34 (by decide)
  have e := hmg.symm.trans (glo_of X Gm c 34 (by decide))
  cases e
  refine ⟨K, [He.cT K ("_law_by_hand", none)], GO K, run 8, 34, fiO K 34, X, ?_, ?_, ?_, ?_, rfl, rfl, rfl, ?_, ?_, ?_⟩
  · intro p hp
    rw [List.mem_singleton.mp hp]
    exact c.empty _ (List.mem_singleton.mpr rfl)
  · intro p hp
    rw [List.mem_singleton.mp hp]
    exact c.out _ (List.mem_singleton.mpr rfl)
  · intro p hp
    rw [List.mem_singleton.mp hp]
    exact PySem.W.codeHd_of_K X (c.hd _ (List.mem_singleton.mpr rfl))
  · intro q hq
    have hq : q ∈ [((He.cT K ("_law_by_hand", none)).2, byT)] := hq
    rw [List.mem_singleton.mp hq]
    exact List.mem_singleton.mpr rfl
  · intro s u
    have b := (fok X Gm c 34 (by decide)).bd
    obtain ⟨oc, od, dV, kV, doc, pm, an, cdv, ct, osl, efd, lk, hcd, hD, _⟩ := F.ex
    have e : fdOf K (nms.getD 34 "", none) = fd := fdOf_eq lk
    show BindsTo s (fdOf K (nms.getD 34 "", none)) ⟨[u], []⟩ [("script", u)]
    rw [e]
    exact F.bindsA (ps := psO 34) (bf 34 (by decide)).b s [u] rfl
  · intro base hb hn ht
    letI : HasK := ⟨K⟩
    exact @fn_ok ⟨K⟩ DO (GO K) lawO.prog w K mg base tab (@prg lawO.prog w h K mg base X Gm c) rfl (fun f i hf => @defs_ok lawO.prog w h K mg base X Gm c (ht _ (List.mem_singleton.mpr rfl)) f i hf) 8
  · intro ns hl _
    exact r_law 0 ns hl
end
end K3
open PySem PySem.W PySem.Calls PyProof.Rows
set_option maxHeartbeats 0 in
theorem PySem.Challenge.cw_allislands_k03_whole_directions_in_order_holds : PySem.Challenge.rw_allislands_k03_whole_directions_in_order.Holds := by
  w_on; o_law
  refine HandSHeadRun.head_imp (r := K3.rowO) (q := K3.viewO) (H := K3.hkO) (ob := K3.obO) (M := 4000) (loose := K3.looseO) (d := HandSHeadRun.topDef K3.progO 49) (kwd := []) K3.obO_eq K3.runO
    (by kernel_rfl) (by kernel_rfl) (by rfl) (by rfl) (by first | assumption | decide +kernel) (by decide +kernel) ⟨rfl, rfl, rfl, rfl, rfl, by decide +kernel⟩ ?hw ?hc
  case hw => w_witness2
  case hc =>
    refine @Ci.walk_G ⟨[]⟩ K3.lawO 63 32 K3.viewO K3.looseO _ _ _ "script" rfl (by decide) (by kernel_rfl) ⟨rfl, by decide, by decide⟩ ?_
    intro w mg fa h Y G hmg0
    obtain ⟨K, KX, c⟩ := Y
    have hmg : mg ("law" : PySem.Str) = some (.ref fa) := by
      have e : (HandSHeadRun.topDef K3.progO 49).name = ("law" : PySem.Str) := by kernel_rfl
      rw [← e]
      exact hmg0
    exact K3.law_at KX G c fa hmg

end
