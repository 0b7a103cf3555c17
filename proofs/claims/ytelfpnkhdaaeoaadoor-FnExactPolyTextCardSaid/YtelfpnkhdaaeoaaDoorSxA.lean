/-
  A small symbolic executor over the model's code: the language of its expressions, and the executor itself. Nothing is proved here.
  (The facts about it: SxB and on.)
-/
import Derived.Calls
import Derived.Orders
import Derived.Below
namespace Go.Proofs.YtelfpnkhdaaeoaaDoor.Sx
open Go

/-! ## Expressions: closed data; variables are places in an environment of numbers and of lists of numbers -/
mutual
inductive E where
  | lit (n : Int)
  | var (i : Nat)
  | add (a b : E)
  | sub (a b : E)
  | mul (a b : E)
  | div (a b : E)
  | mod (a b : E)
  | tdiv (a b : E)
  | tmod (a b : E)
  | pow2 (a : E)
  | wrap (k : IntKind) (a : E)
  | bits (o : BinOp) (k : IntKind) (a b : E)
  | ite (c : B) (a b : E)
  | app (g i : Nat) (as : AS)
  | len (l : L)
  | at (l : L) (i : E)
inductive B where
  | lit (b : Bool)
  | lt (a b : E)
  | le (a b : E)
  | eq (a b : E)
  | not (b : B)
  | and (a b : B)
  | or (a b : B)
  | beq (a b : B)
  | leq (a b : L)
inductive L where
  | lit (xs : List Int)
  | var (i : Nat)
  | cat (a b : L)
  | one (e : E)
  | take (l : L) (n : E)
  | drop (l : L) (n : E)
  | set (l : L) (i v : E)
  | zeros (n : E)
  | app (g i : Nat) (as : AS)
inductive AS where
  | nil
  | e (a : E) (as : AS)
  | l (a : L) (as : AS)
end

mutual
def E.eqb : E → E → Bool
  | .lit a, .lit b => decide (a = b)
  | .var i, .var j => Nat.beq i j
  | .add a b, .add c d => a.eqb c && b.eqb d
  | .sub a b, .sub c d => a.eqb c && b.eqb d
  | .mul a b, .mul c d => a.eqb c && b.eqb d
  | .div a b, .div c d => a.eqb c && b.eqb d
  | .mod a b, .mod c d => a.eqb c && b.eqb d
  | .tdiv a b, .tdiv c d => a.eqb c && b.eqb d
  | .tmod a b, .tmod c d => a.eqb c && b.eqb d
  | .pow2 a, .pow2 b => a.eqb b
  | .wrap k a, .wrap l b => decide (k = l) && a.eqb b
  | .bits o k a b, .bits o' k' c d => decide (o = o') && (decide (k = k') && (a.eqb c && b.eqb d))
  | .ite c a b, .ite c' a' b' => c.eqb c' && (a.eqb a' && b.eqb b')
  | .app g i as, .app h j bs => Nat.beq g h && (Nat.beq i j && as.eqb bs)
  | .len l, .len m => l.eqb m
  | .at l i, .at m j => l.eqb m && i.eqb j
  | _, _ => false
def B.eqb : B → B → Bool
  | .lit a, .lit b => bif a then b else !b
  | .lt a b, .lt c d => a.eqb c && b.eqb d
  | .le a b, .le c d => a.eqb c && b.eqb d
  | .eq a b, .eq c d => a.eqb c && b.eqb d
  | .not a, .not b => a.eqb b
  | .and a b, .and c d => a.eqb c && b.eqb d
  | .or a b, .or c d => a.eqb c && b.eqb d
  | .beq a b, .beq c d => a.eqb c && b.eqb d
  | .leq a b, .leq c d => a.eqb c && b.eqb d
  | _, _ => false
def L.eqb : L → L → Bool
  | .lit a, .lit b => decide (a = b)
  | .var i, .var j => Nat.beq i j
  | .cat a b, .cat c d => a.eqb c && b.eqb d
  | .one a, .one b => a.eqb b
  | .take a b, .take c d => a.eqb c && b.eqb d
  | .drop a b, .drop c d => a.eqb c && b.eqb d
  | .set a b x, .set c d y => a.eqb c && (b.eqb d && x.eqb y)
  | .zeros a, .zeros b => a.eqb b
  | .app g i as, .app h j bs => Nat.beq g h && (Nat.beq i j && as.eqb bs)
  | _, _ => false
def AS.eqb : AS → AS → Bool
  | .nil, .nil => true
  | .e a as, .e b bs => a.eqb b && as.eqb bs
  | .l a as, .l b bs => a.eqb b && as.eqb bs
  | _, _ => false
end

/-- The environment: numbers, and lists of numbers. -/
structure Env where
  i : List Int
  l : List (List Int)

/-- What the functions that are called are taken to be: numbers and lists in, numbers and lists out. -/
abbrev Fns := Nat → List Int → List (List Int) → List Int × List (List Int)

/-- and, or, xor, and-not as the model has them, on numbers. -/
def bitsInt (o : BinOp) (k : IntKind) (x y : Int) : Int :=
  let a := BitVec.ofInt k.bits x
  let b := BitVec.ofInt k.bits y
  match o with
  | .and => k.wrap (a &&& b).toNat
  | .or => k.wrap (a ||| b).toNat
  | .xor => k.wrap (a ^^^ b).toNat
  | _ => k.wrap (a &&& ~~~b).toNat

mutual
def E.den (Φ : Fns) (ρ : Env) : E → Int
  | .lit n => n
  | .var i => ρ.i.getD i 0
  | .add a b => a.den Φ ρ + b.den Φ ρ
  | .sub a b => a.den Φ ρ - b.den Φ ρ
  | .mul a b => a.den Φ ρ * b.den Φ ρ
  | .div a b => a.den Φ ρ / b.den Φ ρ
  | .mod a b => a.den Φ ρ % b.den Φ ρ
  | .tdiv a b => (a.den Φ ρ).tdiv (b.den Φ ρ)
  | .tmod a b => (a.den Φ ρ).tmod (b.den Φ ρ)
  | .pow2 a => 2 ^ (a.den Φ ρ).toNat
  | .wrap k a => k.wrap (a.den Φ ρ)
  | .bits o k a b => bitsInt o k (a.den Φ ρ) (b.den Φ ρ)
  | .ite c a b => if c.den Φ ρ then a.den Φ ρ else b.den Φ ρ
  | .app g i as => (Φ g (as.denE Φ ρ) (as.denL Φ ρ)).1.getD i 0
  | .len l => (l.den Φ ρ).length
  | .at l i => (l.den Φ ρ).getD (i.den Φ ρ).toNat 0
def B.den (Φ : Fns) (ρ : Env) : B → Bool
  | .lit b => b
  | .lt a b => decide (a.den Φ ρ < b.den Φ ρ)
  | .le a b => decide (a.den Φ ρ ≤ b.den Φ ρ)
  | .eq a b => decide (a.den Φ ρ = b.den Φ ρ)
  | .not b => !b.den Φ ρ
  | .and a b => a.den Φ ρ && b.den Φ ρ
  | .or a b => a.den Φ ρ || b.den Φ ρ
  | .beq a b => a.den Φ ρ == b.den Φ ρ
  | .leq a b => decide (a.den Φ ρ = b.den Φ ρ)
def L.den (Φ : Fns) (ρ : Env) : L → List Int
  | .lit xs => xs
  | .var i => ρ.l.getD i []
  | .cat a b => a.den Φ ρ ++ b.den Φ ρ
  | .one e => [e.den Φ ρ]
  | .take l n => (l.den Φ ρ).take (n.den Φ ρ).toNat
  | .drop l n => (l.den Φ ρ).drop (n.den Φ ρ).toNat
  | .set l i v => (l.den Φ ρ).set (i.den Φ ρ).toNat (v.den Φ ρ)
  | .zeros n => List.replicate (n.den Φ ρ).toNat 0
  | .app g i as => (Φ g (as.denE Φ ρ) (as.denL Φ ρ)).2.getD i []
def AS.denE (Φ : Fns) (ρ : Env) : AS → List Int
  | .nil => []
  | .e a as => a.den Φ ρ :: as.denE Φ ρ
  | .l _ as => as.denE Φ ρ
def AS.denL (Φ : Fns) (ρ : Env) : AS → List (List Int)
  | .nil => []
  | .e _ as => as.denL Φ ρ
  | .l a as => a.den Φ ρ :: as.denL Φ ρ
end

/-- A test, as a proposition (the executor's answer is read by this). -/
def B.prop (Φ : Fns) (ρ : Env) : B → Prop
  | .lit b => b = true
  | .lt a b => a.den Φ ρ < b.den Φ ρ
  | .le a b => a.den Φ ρ ≤ b.den Φ ρ
  | .eq a b => a.den Φ ρ = b.den Φ ρ
  | .not b => ¬ b.prop Φ ρ
  | .and a b => a.prop Φ ρ ∧ b.prop Φ ρ
  | .or a b => a.prop Φ ρ ∨ b.prop Φ ρ
  | .beq a b => (a.prop Φ ρ ↔ b.prop Φ ρ)
  | .leq a b => a.den Φ ρ = b.den Φ ρ

/-! ## Which variables stand in it: fewer than so many numbers and lists -/
mutual
def E.sc (n m : Nat) : E → Bool
  | .lit _ => true
  | .var i => Nat.blt i n
  | .add a b | .sub a b | .mul a b | .div a b | .mod a b | .tdiv a b | .tmod a b | .bits _ _ a b => a.sc n m && b.sc n m
  | .pow2 a | .wrap _ a => a.sc n m
  | .ite c a b => c.sc n m && (a.sc n m && b.sc n m)
  | .app _ _ as => as.sc n m
  | .len l => l.sc n m
  | .at l i => l.sc n m && i.sc n m
def B.sc (n m : Nat) : B → Bool
  | .lit _ => true
  | .lt a b | .le a b | .eq a b => a.sc n m && b.sc n m
  | .not b => b.sc n m
  | .and a b | .or a b | .beq a b => a.sc n m && b.sc n m
  | .leq a b => a.sc n m && b.sc n m
def L.sc (n m : Nat) : L → Bool
  | .lit _ => true
  | .var i => Nat.blt i m
  | .cat a b => a.sc n m && b.sc n m
  | .one e | .zeros e => e.sc n m
  | .take l e | .drop l e => l.sc n m && e.sc n m
  | .set l i v => l.sc n m && (i.sc n m && v.sc n m)
  | .app _ _ as => as.sc n m
def AS.sc (n m : Nat) : AS → Bool
  | .nil => true
  | .e a as => a.sc n m && as.sc n m
  | .l a as => a.sc n m && as.sc n m
end

/-! ## Bounds -/
/-- From lo to hi. -/
structure Iv where
  lo : Int
  hi : Int

def kmin (k : IntKind) : Int := match k with
  | .i8 => -128 | .i16 => -32768 | .i32 => -2147483648 | .i64 => -9223372036854775808
  | _ => 0
def kmax (k : IntKind) : Int := match k with
  | .i8 => 127 | .i16 => 32767 | .i32 => 2147483647 | .i64 => 9223372036854775807
  | .u8 => 255 | .u16 => 65535 | .u32 => 4294967295 | .u64 => 18446744073709551615

def kiv (k : IntKind) : Iv := ⟨kmin k, kmax k⟩

/-- What a place of a result holds: a number of a kind, a truth value (0 or 1), the bytes of a string, or the numbers of a slice. -/
inductive Kd where
  | i (k : IntKind)
  | b
  | n (k : IntKind) (lo hi : Int)
  deriving DecidableEq

/-- The bounds of the numbers that the variables stand for; those of the lists' elements, and how long they are at most; and the kinds of what called functions return. -/
structure Bds where
  i : List Iv
  l : List (Iv × Int)
  f : List (Nat × List Kd)
  /-- what has been decided on the way here -/
  p : List (B × Bool)

def Bds.fn (R : Bds) (g : Nat) : List Kd := go R.f
where
  go : List (Nat × List Kd) → List Kd
    | [] => []
    | (h, ks) :: r => bif Nat.beq h g then ks else go r

def ile (a b : Int) : Bool := match b - a with
  | .ofNat _ => true
  | .negSucc _ => false
def ilt (a b : Int) : Bool := ile (a + 1) b
def imin (a b : Int) : Int := bif ile a b then a else b
def imax (a b : Int) : Int := bif ile a b then b else a
def iabs (a : Int) : Int := imax a (-a)
def Kd.iv : Kd → Iv
  | .i k => kiv k
  | .b => ⟨0, 1⟩
  | .n _ lo hi => ⟨imin lo 0, imax hi 0⟩
/-- What a cell of a block of numbers holds: a number of a kind, or a truth value (0 or 1). -/
inductive EK where
  | i8 | i16 | i32 | i64 | u8 | u16 | u32 | u64 | b
  deriving DecidableEq
def EK.kd : EK → Kd
  | .i8 => .i .i8 | .i16 => .i .i16 | .i32 => .i .i32 | .i64 => .i .i64 | .u8 => .i .u8 | .u16 => .i .u16 | .u32 => .i .u32 | .u64 => .i .u64 | .b => .b
def EK.of : IntKind → EK
  | .i8 => .i8 | .i16 => .i16 | .i32 => .i32 | .i64 => .i64 | .u8 => .u8 | .u16 => .u16 | .u32 => .u32 | .u64 => .u64
def eiv (k : EK) : Iv := k.kd.iv
def Iv.mag (a : Iv) : Int := imax (iabs a.lo) (iabs a.hi)
def Iv.sub (a b : Iv) : Bool := ile b.lo a.lo && ile a.hi b.hi
def Iv.cup (a b : Iv) : Iv := ⟨imin a.lo b.lo, imax a.hi b.hi⟩

/-- Both known. -/
def both (f : Iv → Iv → Option Iv) : Option Iv → Option Iv → Option Iv
  | some a, some b => f a b
  | _, _ => none

def Iv.mulI (a b : Iv) : Iv :=
  bif ile 1 b.lo && ile b.hi 1 then a else bif ile 0 a.lo && ile 0 b.lo then ⟨a.lo * b.lo, a.hi * b.hi⟩ else ⟨-(a.mag * b.mag), a.mag * b.mag⟩
def Iv.divI (a b : Iv) : Option Iv :=
  bif ile 0 b.lo then (bif ile 0 a.lo then some ⟨0, bif ile 1 b.lo then a.hi / b.lo else a.hi⟩ else some ⟨imin a.lo 0, imax a.hi 0⟩) else none
def Iv.modI (a b : Iv) : Option Iv :=
  bif ile 1 b.lo then some ⟨0, bif ile 0 a.lo then imin a.hi (b.hi - 1) else b.hi - 1⟩ else none
def Iv.powI (a : Iv) : Option Iv := bif ile a.hi 256 then some ⟨2 ^ a.lo.toNat, 2 ^ a.hi.toNat⟩ else none
def Iv.andI (k : IntKind) (o : BinOp) (a b : Iv) : Iv := match o with
  | .and => bif ile 0 a.lo && ile 0 b.lo && ile a.hi (kmax k) && ile b.hi (kmax k) then ⟨0, imin a.hi b.hi⟩ else kiv k
  | _ => kiv k

def ivs : List Iv → Nat → Option Iv
  | [], _ => none
  | a :: _, 0 => some a
  | _ :: r, n + 1 => ivs r n

def kds : List Kd → Nat → Option Iv
  | [], _ => none
  | a :: _, 0 => some a.iv
  | _ :: r, n + 1 => kds r n

def lvs : List (Iv × Int) → Nat → Option (Iv × Int)
  | [], _ => none
  | a :: _, 0 => some a
  | _ :: r, n + 1 => lvs r n

def hullOf : List Int → Iv
  | [] => ⟨0, 0⟩
  | x :: xs => Iv.cup ⟨x, x⟩ (hullOf xs)

mutual
/-- Bounds of an expression. -/
def E.iv (R : Bds) : E → Option Iv
  | .lit n => some ⟨n, n⟩
  | .var i => ivs R.i i
  | .add a b => both (fun x y => some ⟨x.lo + y.lo, x.hi + y.hi⟩) (a.iv R) (b.iv R)
  | .sub a b => both (fun x y => some ⟨x.lo - y.hi, x.hi - y.lo⟩) (a.iv R) (b.iv R)
  | .mul a b => both (fun x y => some (x.mulI y)) (a.iv R) (b.iv R)
  | .div a b => both Iv.divI (a.iv R) (b.iv R)
  | .mod a b => both Iv.modI (a.iv R) (b.iv R)
  | .tdiv a _ => (a.iv R).map fun x => ⟨-x.mag, x.mag⟩
  | .tmod a _ => (a.iv R).map fun x => ⟨imin x.lo 0, imax x.hi 0⟩
  | .pow2 a => (a.iv R).bind Iv.powI
  | .wrap k _ => some (kiv k)
  | .bits o k a b => both (fun x y => some (Iv.andI k o x y)) (a.iv R) (b.iv R)
  | .ite _ a b => both (fun x y => some (x.cup y)) (a.iv R) (b.iv R)
  | .app g i _ => kds (R.fn g) i
  | .len l => (l.iv R).map fun p => ⟨0, p.2⟩
  | .at l _ => (l.iv R).map fun p => p.1.cup ⟨0, 0⟩
/-- Bounds of a list's elements, and of its length. -/
def L.iv (R : Bds) : L → Option (Iv × Int)
  | .lit xs => some (hullOf xs, xs.length)
  | .var i => lvs R.l i
  | .cat a b => match a.iv R, b.iv R with
    | some p, some q => some (p.1.cup q.1, p.2 + q.2)
    | _, _ => none
  | .one e => (e.iv R).map fun x => (x, 1)
  | .take l _ => l.iv R
  | .drop l _ => l.iv R
  | .set l _ v => match l.iv R, v.iv R with
    | some p, some x => some (p.1.cup x, p.2)
    | _, _ => none
  | .zeros n => (n.iv R).map fun x => (⟨0, 0⟩, imax x.hi 0)
  | .app _ _ _ => none
end

/-! ## Making expressions -/
def mkWrap (R : Bds) (k : IntKind) (e : E) : E := match e.iv R with
  | some iv => bif iv.sub (kiv k) then (bif ile iv.hi iv.lo then .lit iv.lo else e) else .wrap k e
  | none => .wrap k e
def mkAdd (a b : E) : E := match a, b with
  | .lit x, .lit y => .lit (x + y)
  | a, .lit (.ofNat 0) => a
  | .add c (.lit x), .lit y => .add c (.lit (x + y))
  | a, b => .add a b
def mkSub (a b : E) : E := match a, b with
  | .lit x, .lit y => .lit (x - y)
  | a, .lit (.ofNat 0) => a
  | a, b => .sub a b
def mkMul (a b : E) : E := match a, b with
  | .lit x, .lit y => .lit (x * y)
  | a, b => .mul a b
def mkPow2 (a : E) : E := match a with
  | .lit x => .lit (2 ^ x.toNat)
  | a => .pow2 a
def mkDiv (a b : E) : E := match a, b with
  | .lit x, .lit y => .lit (x / y)
  | a, b => .div a b
def mkMod (a b : E) : E := match a, b with
  | .lit x, .lit y => .lit (x % y)
  | a, b => .mod a b

/-- a is less than b: known true, known false, or asked. -/
def mkLt (R : Bds) (a b : E) : B := match a.iv R, b.iv R with
  | some x, some y => bif ilt x.hi y.lo then .lit true else bif ile y.hi x.lo then .lit false else .lt a b
  | _, _ => .lt a b
def mkLe (R : Bds) (a b : E) : B := match a.iv R, b.iv R with
  | some x, some y => bif ile x.hi y.lo then .lit true else bif ilt y.hi x.lo then .lit false else .le a b
  | _, _ => .le a b
def mkEq (R : Bds) (a b : E) : B := match a.iv R, b.iv R with
  | some x, some y => bif ilt x.hi y.lo || ilt y.hi x.lo then .lit false
      else bif ile x.hi x.lo && ile y.hi y.lo && ile x.lo y.lo && ile y.lo x.lo then .lit true else .eq a b
  | _, _ => .eq a b
def mkNot (b : B) : B := match b with
  | .lit x => .lit (!x)
  | .not b => b
  | .lt a b => .le b a
  | .le a b => .lt b a
  | b => .not b
def mkAnd (a b : B) : B := match a, b with
  | .lit true, b => b
  | .lit false, _ => .lit false
  | a, .lit true => a
  | a, b => .and a b
def mkOr (a b : B) : B := match a, b with
  | .lit true, _ => .lit true
  | .lit false, b => b
  | a, .lit false => a
  | a, b => .or a b
def mkBeq (a b : B) : B := match a, b with
  | .lit true, b => b
  | .lit false, b => mkNot b
  | a, .lit true => a
  | a, .lit false => mkNot a
  | a, b => .beq a b
def mkIte (c : B) (a b : E) : E := match c with
  | .lit true => a
  | .lit false => b
  | c => .ite c a b
/-- A truth value as 0 or 1, and back. -/
def ofB (R : Bds) (b : B) : E := match b with
  | .lit true => .lit 1
  | .lit false => .lit 0
  | .eq e (.lit (.ofNat 1)) => match e.iv R with
    | some iv => bif ile 0 iv.lo && ile iv.hi 1 then e else .ite (.eq e (.lit 1)) (.lit 1) (.lit 0)
    | none => .ite (.eq e (.lit 1)) (.lit 1) (.lit 0)
  | b => .ite b (.lit 1) (.lit 0)
def toB (R : Bds) (e : E) : B := mkEq R e (.lit 1)

/-! ## Values -/
inductive Cell where
  | int (k : IntKind) (e : E)
  | bool (b : B)
  | ptr (id off : Nat)
  | ptrx (id off n stride : Nat) (e : E)
  | nilp
  | nilf
  /-- the nil slice -/
  | nils
  | fn (f : Nat)
  | str (l : L)
  /-- a slice of an array, of known bounds -/
  | slc (id off len cap : Nat)
  /-- a slice of a block of numbers, s cells an element: from an element on, so many -/
  | sl (id s : Nat) (off len : E)
  /-- the address of a cell of an element of a block of numbers -/
  | lp (id s : Nat) (e : E) (f : Nat)
  /-- a number as an interface value -/
  | ifc (t : TypeId) (k : IntKind) (e : E)
  /-- a closure: the addresses that it holds -/
  | clo (g : Nat) (ps : List (Nat × Nat))

inductive SV where
  | one (c : Cell)
  | agg (cs : List Cell)
  | tup (vs : List (Bool × List Cell))
  | any

def SV.undef : SV := .tup []
def SV.cells : SV → List Cell
  | .one c => [c]
  | .agg cs => cs
  | .tup _ | .any => []

structure Reg where
  cs : List Cell
  own : Bool
  ty : TypeId
  /-- a block of numbers: the kinds of an element's cells, and all numbers -/
  tl : Option (List EK × L)

structure St where
  tmps : List SV
  heap : List (Option Reg)

def getT : List SV → Nat → SV
  | [], _ => .undef
  | v :: _, 0 => v
  | _ :: r, n + 1 => getT r n
def setT : List SV → Nat → SV → List SV
  | [], _, _ => []
  | _ :: r, 0, v => v :: r
  | x :: r, n + 1, v => x :: setT r n v
def getH : List (Option Reg) → Nat → Option Reg
  | [], _ => none
  | v :: _, 0 => v
  | _ :: r, n + 1 => getH r n
def setH : List (Option Reg) → Nat → Option Reg → List (Option Reg)
  | [], _, _ => []
  | _ :: r, 0, v => v :: r
  | x :: r, n + 1, v => x :: setH r n v

def St.put (S : St) (dst : Option Nat) (v : SV) : St := match dst with
  | some d => { S with tmps := setT S.tmps d v }
  | none => S

def bytesL (s : ByteArray) : List Int := s.data.toList.map fun b => (b.toNat : Int)

def cellOf : Value → Option Cell
  | .int k n => some (.int k (.lit n))
  | .bool b => some (.bool (.lit b))
  | .pointer none => some .nilp
  | .nilFunc => some .nilf
  | .slice none 0 0 => some .nils
  | .string s => some (.str (.lit (bytesL s)))
  | .func (.func f) a b => bif a.isEmpty && b.isEmpty then some (.fn f) else none
  | _ => none

def cellsOf : List Value → Option (List Cell)
  | [] => some []
  | v :: r => match cellOf v, cellsOf r with
    | some c, some cs => some (c :: cs)
    | _, _ => none

def ofValue : Value → Option SV
  | .agg cs => (cellsOf cs.toList).map .agg
  | .tuple vs => bif vs.isEmpty then some .undef else none
  | v => (cellOf v).map .one

/-- What an operand reads as; nothing where it is none of the values known here. -/
def valOf (S : St) : Operand → Option SV
  | .tmp t => some (getT S.tmps t)
  | .const v => ofValue v
  | .func f => some (.one (.fn f))
  | .global _ => none

/-! ## What a call has returned, by variables in its place -/
mutual
def E.rep (g : Nat) (as : AS) (n m : Nat) : E → E
  | .lit x => .lit x
  | .var i => .var i
  | .add a b => .add (a.rep g as n m) (b.rep g as n m)
  | .sub a b => .sub (a.rep g as n m) (b.rep g as n m)
  | .mul a b => .mul (a.rep g as n m) (b.rep g as n m)
  | .div a b => .div (a.rep g as n m) (b.rep g as n m)
  | .mod a b => .mod (a.rep g as n m) (b.rep g as n m)
  | .tdiv a b => .tdiv (a.rep g as n m) (b.rep g as n m)
  | .tmod a b => .tmod (a.rep g as n m) (b.rep g as n m)
  | .pow2 a => .pow2 (a.rep g as n m)
  | .wrap k a => .wrap k (a.rep g as n m)
  | .bits o k a b => .bits o k (a.rep g as n m) (b.rep g as n m)
  | .ite c a b => .ite (c.rep g as n m) (a.rep g as n m) (b.rep g as n m)
  | .app h j bs => bif Nat.blt j m && (Nat.beq h g && bs.eqb as) then .var (n + j) else .app h j (AS.rep g as n m bs)
  | .len l => .len (l.rep g as n m)
  | .at l i => .at (l.rep g as n m) (i.rep g as n m)
def B.rep (g : Nat) (as : AS) (n m : Nat) : B → B
  | .lit b => .lit b
  | .lt a b => .lt (a.rep g as n m) (b.rep g as n m)
  | .le a b => .le (a.rep g as n m) (b.rep g as n m)
  | .eq a b => .eq (a.rep g as n m) (b.rep g as n m)
  | .not b => .not (b.rep g as n m)
  | .and a b => .and (a.rep g as n m) (b.rep g as n m)
  | .or a b => .or (a.rep g as n m) (b.rep g as n m)
  | .beq a b => .beq (a.rep g as n m) (b.rep g as n m)
  | .leq a b => .leq (a.rep g as n m) (b.rep g as n m)
def L.rep (g : Nat) (as : AS) (n m : Nat) : L → L
  | .lit xs => .lit xs
  | .var i => .var i
  | .cat a b => .cat (a.rep g as n m) (b.rep g as n m)
  | .one e => .one (e.rep g as n m)
  | .take l e => .take (l.rep g as n m) (e.rep g as n m)
  | .drop l e => .drop (l.rep g as n m) (e.rep g as n m)
  | .set l i v => .set (l.rep g as n m) (i.rep g as n m) (v.rep g as n m)
  | .zeros k => .zeros (k.rep g as n m)
  | .app h j bs => .app h j (AS.rep g as n m bs)
def AS.rep (g : Nat) (as : AS) (n m : Nat) : AS → AS
  | .nil => .nil
  | .e a bs => .e (a.rep g as n m) (AS.rep g as n m bs)
  | .l a bs => .l (a.rep g as n m) (AS.rep g as n m bs)
end

def Cell.rep (g : Nat) (as : AS) (n m : Nat) : Cell → Cell
  | .int k e => .int k (e.rep g as n m)
  | .bool b => .bool (b.rep g as n m)
  | .ptrx i o q s e => .ptrx i o q s (e.rep g as n m)
  | .str l => .str (l.rep g as n m)
  | .sl i s o l => .sl i s (o.rep g as n m) (l.rep g as n m)
  | .lp i s e f => .lp i s (e.rep g as n m) f
  | .ifc t k e => .ifc t k (e.rep g as n m)
  | c => c
def tlRep (g : Nat) (as : AS) (n m : Nat) : Option (List EK × L) → Option (List EK × L)
  | some p => some (p.1, p.2.rep g as n m)
  | none => none
def SV.rep (g : Nat) (as : AS) (n m : Nat) : SV → SV
  | .one c => .one (c.rep g as n m)
  | .agg cs => .agg (cs.map (·.rep g as n m))
  | .tup vs => .tup (vs.map fun v => (v.1, v.2.map (·.rep g as n m)))
  | .any => .any
def St.rep (g : Nat) (as : AS) (n m : Nat) (S : St) : St :=
  ⟨S.tmps.map (·.rep g as n m), S.heap.map fun r => r.map fun r => { r with cs := r.cs.map (·.rep g as n m), tl := tlRep g as n m r.tl }⟩

def memN (x : Nat) : List Nat → Bool
  | [] => false
  | y :: r => Nat.beq x y || memN x r

/-! ## Called functions -/
/-- How a parameter is taken apart into numbers and lists: a value, or what a pointer points to (which the callee only reads). -/
inductive PSh where
  | val (agg : Bool) (ks : List Kd)
  | ptr (ks : List Kd)
  /-- a slice of so many numbers, which the callee only reads -/
  | slc (ks : List Kd)
  /-- a slice of numbers, by the kinds of an element's cells; a struct of such slices; the address of one -/
  | lst (ks : List EK)
  | lsts (kss : List (List EK))
  | plsts (kss : List (List EK))
  /-- this function -/
  | fnc (g : Nat)
  /-- a text -/
  | str
  /-- a struct of numbers and behind them slices -/
  | mix (ks : List Kd) (kss : List (List EK))

def PSh.ks : PSh → List Kd
  | .val _ ks => ks
  | .ptr ks => ks
  | .slc ks => ks
  | .mix ks _ => ks
  | .lst _ | .lsts _ | .plsts _ | .fnc _ | .str => []
/-- The lists of a parameter: the kinds of an element's cells. -/
def PSh.lss : PSh → List (List EK)
  | .lst ks => [ks]
  | .str => [[.u8]]
  | .lsts kss | .plsts kss => kss
  | .mix _ kss => kss
  | _ => []
def cpOf : List (Nat × PSh × List TypeId) → Nat → Option (PSh × List TypeId)
  | [], _ => none
  | (g, s) :: r, f => bif Nat.beq g f then some s else cpOf r f

structure Sig where
  params : List PSh
  /-- the results, each with its cells' kinds -/
  res : List (Bool × List Kd)
  /-- nothing is asked of the arguments -/
  total : Bool

/-- What a function returns that returns lists, too: numbers, or slices (of a struct, or one alone) with the elements' types. -/
inductive LR where
  | n (b : Bool) (ks : List Kd)
  | l (agg : Bool) (kss : List (List EK)) (tys : List TypeId)
  /-- a struct of numbers and behind them slices -/
  | m (ks : List Kd) (kss : List (List EK)) (tys : List TypeId)
structure LSig where
  params : List PSh
  res : List LR
  total : Bool
  /-- it never returns nil -/
  sure : Bool
def lsKds : List LR → List Kd
  | [] => []
  | .n _ ks :: r => ks ++ lsKds r
  | .l _ _ _ :: r => lsKds r
  | .m ks _ _ :: r => ks ++ lsKds r
def lsKss : List LR → List (List EK)
  | [] => []
  | .n _ _ :: r => lsKss r
  | .l _ kss _ :: r => kss ++ lsKss r
  | .m _ kss _ :: r => kss ++ lsKss r
def lsTys : List LR → List TypeId
  | [] => []
  | .n _ _ :: r => lsTys r
  | .l _ _ tys :: r => tys ++ lsTys r
  | .m _ _ tys :: r => tys ++ lsTys r
/-- The first number tells whether the slices are nil. -/
def LSig.ivs (s : LSig) : List Iv := ⟨0, bif s.sure then 0 else 1⟩ :: (lsKds s.res).map Kd.iv

/-- A function that writes into its first argument, a slice of numbers: the kinds and the type of its elements, its numbers, its results. -/
structure WSig where
  ks : List EK
  ty : TypeId
  nums : List Kd
  res : List (Bool × List Kd)
  total : Bool
  /-- the slice is the only field of a struct -/
  agg : Bool
  /-- both slices of a struct: the function that it calls on each -/
  via : Option Nat
def WSig.sv (s : WSig) (x : Cell) : SV := bif s.agg then .agg [x] else .one x
def WSig.arg (s : WSig) (v : Value) : Value := bif s.agg then .agg #[v] else v
def svOne (agg : Bool) : SV → Option Cell
  | .one c => bif agg then none else some c
  | .agg [c] => bif agg then some c else none
  | _ => none
def WSig.params (s : WSig) : List PSh := s.nums.map fun k => .val false [k]
def WSig.ivs (s : WSig) : List Iv := (s.res.flatMap (·.2)).map Kd.iv

/-- What a function returns that returns texts, too. -/
inductive SR where
  | n (b : Bool) (ks : List Kd)
  | s
structure SSig where
  params : List PSh
  res : List SR
  total : Bool
def ssKds : List SR → List Kd
  | [] => []
  | .n _ ks :: r => ks ++ ssKds r
  | .s :: r => ssKds r
def ssCnt : List SR → Nat
  | [] => 0
  | .n _ _ :: r => ssCnt r
  | .s :: r => ssCnt r + 1
def byteLv : Iv × Int := (⟨0, 255⟩, 9223372036854775807)
def SSig.ivs (s : SSig) : List Iv := (ssKds s.res).map Kd.iv
def SSig.lvs (s : SSig) : List (Iv × Int) := List.replicate (ssCnt s.res) byteLv

structure Cfg where
  P : Program
  sigs : List (Nat × Sig)
  /-- functions of one argument that return a copy of it: its shape (slices of numbers), and the elements' types -/
  cps : List (Nat × PSh × List TypeId)
  /-- functions that return lists -/
  lfs : List (Nat × LSig)
  /-- functions that write into a slice -/
  wfs : List (Nat × WSig)
  /-- functions that return texts -/
  sfs : List (Nat × SSig)
  /-- slices of these types are lists as soon as they are written down -/
  bls : List TypeId
  /-- functions that may panic: the first number is the code, or 0; and the type of the codes -/
  pfs : List Nat
  pty : TypeId
  /-- functions whose only argument is a closure, and which closure -/
  cls : List (Nat × Nat)
def clOf : List (Nat × Nat) → Nat → Option Nat
  | [], _ => none
  | (g, s) :: r, f => bif Nat.beq g f then some s else clOf r f
/-- The arguments: of a function of a closure, the addresses that it holds. -/
def callArgs (C : Cfg) (f : Nat) (args : List SV) : Option (List SV) := match clOf C.cls f with
  | none => some args
  | some g => match args with
    | [.one (.clo g' ps)] => bif Nat.beq g g' && !memN f C.pfs then some (ps.map fun p => .one (.ptr p.1 p.2)) else none
    | _ => none
def sfOf : List (Nat × SSig) → Nat → Option SSig
  | [], _ => none
  | (g, s) :: r, f => bif Nat.beq g f then some s else sfOf r f

def wfOf : List (Nat × WSig) → Nat → Option WSig
  | [], _ => none
  | (g, s) :: r, f => bif Nat.beq g f then some s else wfOf r f
def lfOf : List (Nat × LSig) → Nat → Option LSig
  | [], _ => none
  | (g, s) :: r, f => bif Nat.beq g f then some s else lfOf r f

def sigOf : List (Nat × Sig) → Nat → Option Sig
  | [], _ => none
  | (g, s) :: r, f => bif Nat.beq g f then some s else sigOf r f

def resKds (s : Sig) : List Kd := s.res.flatMap (·.2)

def kdE (R : Bds) : Kd → Cell → Option E
  | .i k, .int k' e => bif decide (k = k') then (match e.iv R with
    | some iv => bif iv.sub (kiv k) then some e else none
    | none => none) else none
  | .n k lo hi, .int k' e => bif decide (k = k') then (match e.iv R with
    | some iv => bif iv.sub (Kd.n k lo hi).iv then some e else none
    | none => none) else none
  | .b, .bool b => some (ofB R b)
  | _, _ => none

/-- The numbers of some cells, ahead of more arguments. -/
def cellsAS (R : Bds) : List Kd → List Cell → AS → Option AS
  | [], [], as => some as
  | k :: ks, c :: cs, as => match kdE R k c, cellsAS R ks cs as with
    | some e, some r => some (.e e r)
    | _, _ => none
  | _, _, _ => none

def kindsIv : List EK → Iv
  | [] => ⟨0, 0⟩
  | k :: r => Iv.cup (eiv k) (kindsIv r)
/-- No list is longer. -/
def maxLen : Int := 9223372036854775807
/-- How many elements there are. -/
def stripS : L → L
  | .set l _ _ => stripS l
  | l => l
def nelE (l : L) (s : Nat) : E := bif Nat.beq s 1 then .len (stripS l) else .div (.len (stripS l)) (.lit s)
/-- The list of a slice that is a whole block, ahead of more arguments. -/
def lstAS (R : Bds) (rd : Nat → Option Reg) (ks : List EK) (c : Cell) (as : AS) : Option AS := match c with
  | .sl id s off len => match rd id with
    | some r => match r.tl with
      | some (ks', l) => match l.iv R with
        | some p => bif decide (ks = ks') && (Nat.beq s ks.length && (off.eqb (.lit 0) && (len.eqb (nelE l s) && (p.1.sub (kindsIv ks) && ile p.2 (maxLen * (ks.length : Int)))))) then some (.l l as) else none
        | none => none
      | none => none
    | none => none
  | .nils => some (.l (.lit []) as)
  | _ => none
def lstsAS (R : Bds) (rd : Nat → Option Reg) : List (List EK) → List Cell → AS → Option AS
  | [], [], as => some as
  | ks :: kss, c :: cs, as => match lstsAS R rd kss cs as with
    | some as' => lstAS R rd ks c as'
    | none => none
  | _, _, _ => none

/-! What is decided on the way; elements of lists. -/
def canon : B → B × Bool
  | .not b => match canon b with
    | (c, v) => (c, !v)
  | .le a b => (.lt b a, false)
  | b => (b, true)
def lookP (b : B) : List (B × Bool) → Option Bool
  | [] => none
  | (c, v) :: r => bif b.eqb c then some v else lookP b r
def known (p : List (B × Bool)) (b : B) : Option Bool := match b with
  | .lit v => some v
  | b => match canon b with
    | (c, f) => (lookP c p).map fun v => bif f then v else !v
def flatE (e : E) (s f : Nat) : E := bif Nat.beq s 1 then mkAdd e (.lit f) else mkAdd (.mul e (.lit s)) (.lit f)
def ekCell (R : Bds) (k : EK) (e : E) : Cell := match k.kd with
  | .i k => .int k (mkWrap R k e)
  | .n k _ _ => .int k (mkWrap R k e)
  | .b => .bool (toB R e)
def lpCells (R : Bds) (l : L) (e : E) (s : Nat) : Nat → List EK → List Cell
  | _, [] => []
  | f, k :: r => ekCell R k (.at l (flatE e s f)) :: lpCells R l e s (f + 1) r
def add0 : E → E
  | .add (.lit 0) x => x
  | x => x
def argAS (R : Bds) (rd : Nat → Option Reg) (p : PSh) (v : SV) (as : AS) : Option AS := match p, v with
  | .val false ks, .one c => cellsAS R ks [c] as
  | .val true ks, .agg cs => cellsAS R ks cs as
  | .ptr ks, .one (.ptr id off) => match rd id with
    | some r => bif Nat.ble (off + ks.length) r.cs.length && r.tl.isNone then cellsAS R ks ((r.cs.drop off).take ks.length) as else none
    | none => none
  | .ptr ks, .one (.lp id s ix f) => match rd id with
    | some r => match r.tl with
      | some (ks', l) => bif Nat.beq s ks'.length && (Nat.ble (f + ks.length) s && (Nat.blt 0 ks.length && decide (known R.p (.lt (add0 ix) (nelE l s)) = some true))) then
          cellsAS R ks (lpCells R l ix s f ((ks'.drop f).take ks.length)) as else none
      | none => none
    | none => none
  | .lst ks, .one c => lstAS R rd ks c as
  | .fnc g, .one (.fn g') => bif Nat.beq g g' then some as else none
  | .str, .one (.str l) => match l.iv R with
    | some p => bif p.1.sub ⟨0, 255⟩ && ile p.2 9223372036854775807 then some (.l l as) else none
    | none => none
  | .lsts kss, .agg cs => lstsAS R rd kss cs as
  | .mix ks kss, .agg cs => match lstsAS R rd kss (cs.drop ks.length) as with
    | some as' => cellsAS R ks (cs.take ks.length) as'
    | none => none
  | .plsts kss, .one (.ptr id off) => match rd id with
    | some r => bif Nat.ble (off + kss.length) r.cs.length && r.tl.isNone then lstsAS R rd kss ((r.cs.drop off).take kss.length) as else none
    | none => none
  | .slc ks, .one (.slc id off len cap) => match rd id with
    | some r => bif Nat.ble (off + ks.length) r.cs.length && (Nat.beq len ks.length && (Nat.beq cap ks.length && r.tl.isNone)) then cellsAS R ks ((r.cs.drop off).take ks.length) as else none
    | none => none
  | _, _ => none

def argsAS (R : Bds) (rd : Nat → Option Reg) : List PSh → List SV → Option AS
  | [], [] => some .nil
  | p :: ps, v :: vs => match argsAS R rd ps vs with
    | some as => argAS R rd p v as
    | none => none
  | _, _ => none

def resCells (R : Bds) (g : Nat) (as : AS) : Nat → List Kd → List Cell
  | _, [] => []
  | j, .i k :: r => .int k (.app g j as) :: resCells R g as (j + 1) r
  | j, .n k _ _ :: r => .int k (.app g j as) :: resCells R g as (j + 1) r
  | j, .b :: r => .bool (toB R (.app g j as)) :: resCells R g as (j + 1) r

def resComps (R : Bds) (g : Nat) (as : AS) : Nat → List (Bool × List Kd) → List (Bool × List Cell)
  | _, [] => []
  | j, (b, ks) :: r => (b, resCells R g as j ks) :: resComps R g as (j + ks.length) r

/-- Variables from place n on, by their kinds. -/
def varCells (n : Nat) : List Kd → List Cell
  | [] => []
  | .i k :: r => .int k (.var n) :: varCells (n + 1) r
  | .n k _ _ :: r => .int k (.var n) :: varCells (n + 1) r
  | .b :: r => .bool (.eq (.var n) (.lit 1)) :: varCells (n + 1) r

def varComps (n : Nat) : List (Bool × List Kd) → List (Bool × List Cell)
  | [] => []
  | (b, ks) :: r => (b, varCells n ks) :: varComps (n + ks.length) r

def resSV (comps : List (Bool × List Cell)) : Option SV := match comps with
  | [(true, cs)] => some (.agg cs)
  | [(false, [c])] => some (.one c)
  | [_] => none
  | cs => some (.tup cs)

/-! ## Types -/
def intK (P : Program) (t : TypeId) : Option IntKind := match P.underlying t with
  | some (.int k) => some k
  | _ => none

def aggT (P : Program) (t : TypeId) : Bool := match P.underlying t with
  | some (.struct _) | some (.array _ _) => true
  | _ => false

def sizeT (P : Program) (t : TypeId) : Option Nat := (P.info? t).map (·.size)

def zeroT (P : Program) (t : TypeId) : Option SV := match P.info? t with
  | some i => match i.zero with
    | some v => ofValue v
    | none => none
  | none => none

def headOne : List Cell → Option SV
  | c :: _ => some (.one c)
  | [] => none

/-- The part of a type at a place of some cells. -/
def partT (P : Program) (t : TypeId) (cs : List Cell) (off : Nat) : Option SV := match P.underlying t with
  | none => none
  | some _ => match sizeT P t with
    | none => none
    | some n => bif aggT P t then (bif Nat.ble (off + n) cs.length then some (.agg ((cs.drop off).take n)) else none) else headOne (cs.drop off)

/-! ## Operations -/
inductive O where
  | b (c : B)
  | pre (g : Nat) (as : AS)
  /-- nothing is asked: if this number is not 0, it is the code of a panic -/
  | pan (e : E)
def O.ask : O → Bool
  | .pan _ => false
  | _ => true
def panEs : List O → List E
  | [] => []
  | .pan e :: r => e :: panEs r
  | _ :: r => panEs r

structure Res where
  val : SV
  wr : List (Nat × Reg)
  os : List O

def Res.v (x : SV) : Res := ⟨x, [], []⟩
def Res.c (x : Cell) : Res := ⟨.one x, [], []⟩

/-- A condition that must hold: nothing where it is known. -/
def must (b : B) : List O := match b with
  | .lit true => []
  | b => [.b b]

def shiftN (R : Bds) (k : IntKind) (y : E) : E := match y.iv R with
  | some iv => bif ile iv.hi k.bits then y else .ite (.lt y (.lit k.bits)) y (.lit k.bits)
  | none => .ite (.lt y (.lit k.bits)) y (.lit k.bits)

def nonneg (R : Bds) (a : E) : Bool := match a.iv R with
  | some iv => ile 0 iv.lo
  | none => false

def positive (R : Bds) (a : E) : Bool := match a.iv R with
  | some iv => ile 1 iv.lo
  | none => false

def binInt (R : Bds) (op : BinOp) (k : IntKind) (a b : E) : Option Res := match op with
  | .add => some (.c (.int k (mkWrap R k (mkAdd a b))))
  | .sub => some (.c (.int k (mkWrap R k (mkSub a b))))
  | .mul => some (.c (.int k (mkWrap R k (mkMul a b))))
  | .quo => some ⟨.one (.int k (mkWrap R k (bif nonneg R a then mkDiv a b else .tdiv a b))), [], must (mkNot (mkEq R b (.lit 0)))⟩
  | .rem => some ⟨.one (.int k (bif nonneg R a && positive R b then mkMod a b else .tmod a b)), [], must (mkNot (mkEq R b (.lit 0)))⟩
  | .and => some (.c (.int k (.bits .and k a b)))
  | .or => some (.c (.int k (.bits .or k a b)))
  | .xor => some (.c (.int k (.bits .xor k a b)))
  | .andNot => some (.c (.int k (.bits .andNot k a b)))
  | .eql => some (.c (.bool (mkEq R a b)))
  | .neq => some (.c (.bool (mkNot (mkEq R a b))))
  | .lss => some (.c (.bool (mkLt R a b)))
  | .leq => some (.c (.bool (mkLe R a b)))
  | .gtr => some (.c (.bool (mkLt R b a)))
  | .geq => some (.c (.bool (mkLe R b a)))
  | _ => none

def shiftInt (R : Bds) (op : BinOp) (k : IntKind) (a y : E) : Option Res := match op with
  | .shl => some ⟨.one (.int k (mkWrap R k (mkMul a (mkPow2 (shiftN R k y))))), [], must (mkLe R (.lit 0) y)⟩
  | .shr => some ⟨.one (.int k (mkDiv a (mkPow2 (shiftN R k y)))), [], must (mkLe R (.lit 0) y)⟩
  | _ => none

/-- Are two cells of one type alike (numbers, truth values, texts). -/
def eqCell (R : Bds) (u : TypeDesc) (a b : Cell) : Option B := match u, a, b with
  | .int _, .int k x, .int k' y => bif decide (k = k') then some (mkEq R x y) else none
  | .bool, .bool x, .bool y => some (mkBeq x y)
  | .string, .str x, .str y => match x.iv R, y.iv R with
    | some p, some q => bif p.1.sub ⟨0, 255⟩ && q.1.sub ⟨0, 255⟩ then some (.leq x y) else none
    | _, _ => none
  | _, _, _ => none

def eqOne (R : Bds) (u : TypeDesc) (xs ys : List Cell) : Option B := match xs, ys with
  | [x], [y] => eqCell R u x y
  | _, _ => none

def andO (a b : Option B) : Option B := match a, b with
  | some a, some b => some (mkAnd a b)
  | _, _ => none

def eqArr (rec : List Cell → List Cell → Option B) (m : Nat) : Nat → List Cell → List Cell → Option B
  | 0, _, _ => some (.lit true)
  | n + 1, xs, ys => andO (rec (xs.take m) (ys.take m)) (eqArr rec m n (xs.drop m) (ys.drop m))

/-- A type whose values are one cell, or an aggregate. -/
def shapeT (P : Program) (t : TypeId) (m : Nat) : Bool := (P.underlying t).isSome && (aggT P t || Nat.beq m 1)

def eqFlds (P : Program) (rec : TypeId → List Cell → List Cell → Option B) (xs ys : List Cell) : List Field → Option B
  | [] => some (.lit true)
  | f :: fs => bif decide (f.name = "_") then eqFlds P rec xs ys fs else match sizeT P f.type with
    | some m => bif shapeT P f.type m && (Nat.ble (f.offset + m) xs.length && Nat.ble (f.offset + m) ys.length)
        then andO (rec f.type ((xs.drop f.offset).take m) ((ys.drop f.offset).take m)) (eqFlds P rec xs ys fs) else none
    | none => none

/-- '==' at a type, cell by cell. -/
def eqV (P : Program) (R : Bds) : Nat → TypeId → List Cell → List Cell → Option B
  | 0, _, _, _ => none
  | d + 1, t, xs, ys => match P.underlying t with
    | some (.array n e) => match sizeT P e with
      | some m => bif shapeT P e m && (Nat.beq xs.length (n * m) && Nat.beq ys.length (n * m)) then eqArr (eqV P R d e) m n xs ys else none
      | none => none
    | some (.struct fs) => bif P.stoodInHeld t then none else eqFlds P (eqV P R d) xs ys fs.toList
    | some u => eqOne R u xs ys
    | none => none

/-- The element at a symbolic place: a chain of choices. -/
def selE (e : E) : Nat → List E → E
  | _, [] => .lit 0
  | _, [x] => x
  | j, x :: xs => .ite (.eq e (.lit j)) x (selE e (j + 1) xs)

def intEs (k : IntKind) : List Cell → Option (List E)
  | [] => some []
  | .int k' e :: r => bif decide (k = k') then (intEs k r).map (e :: ·) else none
  | _ :: _ => none

def headKind : List Cell → Option IntKind
  | .int k _ :: _ => some k
  | _ => none

def selCell (e : E) (cs : List Cell) : Option Cell := match headKind cs with
  | some k => (intEs k cs).map fun es => .int k (selE e 0 es)
  | none => none

def putCells (e : E) (k : IntKind) (x : E) : Nat → List Cell → List Cell
  | _, [] => []
  | j, .int _ y :: r => .int k (.ite (.eq e (.lit j)) x y) :: putCells e k x (j + 1) r
  | j, c :: r => c :: putCells e k x (j + 1) r

def splice (cs new : List Cell) (off : Nat) : List Cell := cs.take off ++ (new ++ cs.drop (off + new.length))

def slIds : List Cell → List Nat
  | [] => []
  | .sl id _ _ _ :: r => id :: slIds r
  | _ :: r => slIds r
def ptrId : Option SV → List Nat
  | some (.one (.ptr id _)) => [id]
  | some (.one (.ptrx id _ _ _ _)) => [id]
  | some (.one (.slc id _ _ _)) => [id]
  | some (.one (.sl id _ _ _)) => [id]
  | some (.one (.lp id _ _ _)) => [id]
  | some (.one (.clo _ ps)) => ps.map (·.1)
  | some (.agg cs) => slIds cs
  | _ => []

/-- The blocks that an operation looks at. -/
def opIds (v : Operand → Option SV) : Op → List Nat
  | .load _ a => ptrId (v a)
  | .store _ a _ => ptrId (v a)
  | .indexAddr _ x _ => ptrId (v x)
  | .move x => ptrId (v x)
  | .slice _ x _ _ _ => ptrId (v x)
  | .convert _ _ x => ptrId (v x)
  | .call c => c.args.toList.flatMap fun a => ptrId (v a)
  | .binOp _ _ x _ _ => ptrId (v x)
  | _ => []

def fillCells (place : Nat → Option (Nat × Nat)) (cells : List Cell) : List (Nat × SV) → Option (List Cell)
  | [] => some cells
  | (i, v) :: rest => match place i with
    | none => none
    | some (off, size) =>
      bif Nat.beq v.cells.length size && Nat.ble (off + size) cells.length then fillCells place (splice cells v.cells off) rest else none

def svs (v : Operand → Option SV) : List Operand → Option (List SV)
  | [] => some []
  | o :: r => match v o, svs v r with
    | some x, some xs => some (x :: xs)
    | _, _ => none

def svParts (v : Operand → Option SV) : List (Nat × Operand) → Option (List (Nat × SV))
  | [] => some []
  | (i, o) :: r => match v o, svParts v r with
    | some x, some xs => some ((i, x) :: xs)
    | _, _ => none

def fieldAt (P : Program) (s : TypeId) (f : Nat) : Option Field := match P.underlying s with
  | some (.struct fs) => fs[f]?
  | _ => none

/-- A function that can be called by its number: it has a body, and is no stand-in. -/
def plainFn (P : Program) (f : Nat) : Bool := match P.funcs[f]? with
  | some fn => fn.body.isSome && !(fn.name == "runtime.NumGoroutine")
  | none => false

def noTup : SV → Bool
  | .one _ | .agg _ => true
  | _ => false

/-- A value of the shape that a type asks; of an aggregate, no interface in it. -/
def shapeOk (P : Program) (t : TypeId) : SV → Bool
  | .one _ => !aggT P t
  | .agg _ => aggT P t && !P.eqGuardType P.depth t
  | _ => false

/-- A call of a function whose signature is known: its number, signature and arguments. -/
def callOp (C : Cfg) (R : Bds) (v : Operand → Option SV) (rd : Nat → Option Reg) : Op → Option (Nat × Sig × AS)
  | .call c => match c.callee with
    | .value f => match v f, svs v c.args.toList with
      | some (.one (.fn f)), some args => match sigOf C.sigs f with
        | some s => bif plainFn C.P f then ((callArgs C f args).bind (argsAS R rd s.params)).map fun as => (f, s, as) else none
        | none => none
      | _, _ => none
    | _ => none
  | _ => none

/-- A call of a function that may panic. -/
def isPanOp (C : Cfg) : Op → Bool
  | .call c => match c.callee with
    | .value (.func g) => memN g C.pfs
    | _ => false
  | _ => false
/-- The first result is the code. -/
def pfOk (s : Sig) : Bool := match s.res with
  | (false, [.i .i64]) :: _ => true
  | _ => false
/-- A call of a function that returns lists. -/
def lcOp (C : Cfg) (R : Bds) (v : Operand → Option SV) (rd : Nat → Option Reg) : Op → Option (Nat × LSig × AS)
  | .call c => match c.callee with
    | .value (.func g) => match lfOf C.lfs g, svs v c.args.toList with
      | some s, some args => bif plainFn C.P g then (argsAS R rd s.params args).map fun as => (g, s, as) else none
      | _, _ => none
    | _ => none
  | _ => none
/-- A call of a function that writes into a slice: an own list, or a nil slice. -/
def wcOp (C : Cfg) (R : Bds) (v : Operand → Option SV) (rd : Nat → Option Reg) : Op → Option (Nat × WSig × Option (Nat × Reg × L) × AS)
  | .call c => match c.callee with
    | .value (.func g) => match wfOf C.wfs g, svs v c.args.toList with
      | some s, some (x0 :: args) => match argsAS R rd s.params args, svOne s.agg x0 with
        | some as, some x => match lstAS R rd s.ks x as with
          | some as' => bif plainFn C.P g then (match x with
            | .nils => bif s.via.isNone then some (g, s, none, as') else none
            | .sl id _ _ _ => match rd id with
              | some r => match r.tl with
                | some (_, l) => bif s.via.isNone && (r.own && Nat.beq r.ty s.ty) then some (g, s, some (id, r, l), as') else none
                | none => none
              | none => none
            | _ => none) else none
          | none => none
        | _, _ => none
      | _, _ => none
    | _ => none
  | _ => none
def w2ok : WSig → Bool
  | ⟨_, _, [.i .i64], [(false, [.i .i64])], _, false, _⟩ => true
  | _ => false
/-- A call of a function that writes into both slices of a struct. -/
def w2Op (C : Cfg) (v : Operand → Option SV) : Op → Option (Nat × WSig × Cell × Cell × E)
  | .call c => match c.callee with
    | .value (.func f) => match wfOf C.wfs f, svs v c.args.toList with
      | some s, some [.agg [x, y], .one (.int .i64 k)] => match s.via with
        | some g => bif plainFn C.P f && w2ok s then some (g, s, x, y, k) else none
        | none => none
      | _, _ => none
    | _ => none
  | _ => none
/-- One half of it. -/
def wHalf (R : Bds) (rd : Nat → Option Reg) (s : WSig) (x : Cell) (k : E) : Option (Option (Nat × Reg × L) × AS) := match argsAS R rd s.params [.one (.int .i64 k)] with
  | some as0 => match lstAS R rd s.ks x as0 with
    | some as => match x with
      | .nils => some (none, as)
      | .sl id _ _ _ => match rd id with
        | some r => match r.tl with
          | some (_, l) => bif r.own && Nat.beq r.ty s.ty then some (some (id, r, l), as) else none
          | none => none
        | none => none
      | _ => none
    | none => none
  | none => none
/-- A call of a function that returns texts. -/
def scOp (C : Cfg) (R : Bds) (v : Operand → Option SV) (rd : Nat → Option Reg) : Op → Option (Nat × SSig × AS)
  | .call c => match c.callee with
    | .value (.func g) => match sfOf C.sfs g, svs v c.args.toList with
      | some s, some args => bif plainFn C.P g then (argsAS R rd s.params args).map fun as => (g, s, as) else none
      | _, _ => none
    | _ => none
  | _ => none
/-- Its results: numbers from place n on, texts from place m on. -/
def sComps : Nat → Nat → List SR → List (Bool × List Cell)
  | _, _, [] => []
  | n, m, .n b ks :: r => (b, varCells n ks) :: sComps (n + ks.length) m r
  | n, m, .s :: r => (false, [.str (.var m)]) :: sComps n (m + 1) r
def WSig.lv (s : WSig) : Iv × Int := (kindsIv s.ks, maxLen * (s.ks.length : Int))
/-- A slice of block id whose length is the same by another name. -/
def Cell.relen (id : Nat) (old new : E) : Cell → Cell
  | .sl i s o n => bif Nat.beq i id && n.eqb old then .sl i s o new else .sl i s o n
  | c => c
def SV.relen (id : Nat) (old new : E) : SV → SV
  | .one c => .one (c.relen id old new)
  | .agg cs => .agg (cs.map (Cell.relen id old new))
  | v => v
def relenH (id : Nat) (old new : E) (hp : List (Option Reg)) : List (Option Reg) := hp.map fun o => o.map fun r => { r with cs := r.cs.map (Cell.relen id old new) }
/-- The state after a write. -/
def St.wrote (S : St) (m : Nat) (s : WSig) : Option (Nat × Reg × L) → St
  | none => S
  | some (id, r, l) => ⟨S.tmps.map (SV.relen id (nelE l s.ks.length) (nelE (.var m) s.ks.length)), relenH id (nelE l s.ks.length) (nelE (.var m) s.ks.length) (setH S.heap id (some { r with tl := some (s.ks, .var m) }))⟩
def varLs : Nat → Nat → List L
  | _, 0 => []
  | m, k + 1 => .var m :: varLs (m + 1) k
/-- Its results: the numbers are variables from place n on; the slices. -/
def lComps : Nat → List Cell → List LR → List (Bool × List Cell)
  | _, _, [] => []
  | n, cs, .n b ks :: r => (b, varCells n ks) :: lComps (n + ks.length) cs r
  | n, cs, .l agg kss _ :: r => (agg, cs.take kss.length) :: lComps n (cs.drop kss.length) r
  | n, cs, .m ks kss _ :: r => (true, varCells n ks ++ cs.take kss.length) :: lComps (n + ks.length) (cs.drop kss.length) r


/-- The kinds of cells that are all numbers 0. -/
def zeroKs : List Value → Option (List EK)
  | [] => some []
  | .int k (.ofNat 0) :: r => (zeroKs r).map (EK.of k :: ·)
  | .bool false :: r => (zeroKs r).map (EK.b :: ·)
  | _ :: _ => none
def makeKs (C : Cfg) (t : TypeId) : Option (TypeId × List EK × Nat) := match C.P.underlying t with
  | some (.slice e) => match C.P.info? e with
    | some i => match i.zero with
      | some z => match zeroKs z.cells.toList with
        | some ks => bif Nat.beq i.size ks.length && Nat.blt 0 ks.length then some (e, ks, i.bytes) else none
        | none => none
      | none => none
    | none => none
  | _ => none

/-- The cells of some zero values. -/
def zeroCs (z : SV) (len : Nat) : List Cell := (List.range (len * z.cells.length)).map fun i => z.cells.getD (i % z.cells.length) .nilp
/-- ONE OPERATION: its value, what it writes, what it asks. 'new': the number that a new block gets. -/
def opRun (C : Cfg) (R : Bds) (o : Op) (v : Operand → Option SV) (rd : Nat → Option Reg) (new : Nat) : Option Res := match o with
  | .move x | .assign x => (v x).map .v
  | .alloc t => match zeroT C.P t with
    | some z => bif noTup z then some ⟨.one (.ptr new 0), [(new, ⟨z.cells, true, t, none⟩)], []⟩ else none
    | none => none
  | .box t x => match v x with
    | some x => bif noTup x then some ⟨.one (.ptr new 0), [(new, ⟨x.cells, true, t, none⟩)], []⟩ else none
    | none => none
  | .build t parts => match zeroT C.P t, svParts v parts.toList with
    | some (.agg zero), some ps => match C.P.underlying t with
      | some (.struct fs) => bif fs.toList.all (fun f => (sizeT C.P f.type).isSome) && ps.all (fun p => noTup p.2)
          then (fillCells (fun i => fs[i]?.map fun f => (f.offset, (sizeT C.P f.type).getD 0)) zero ps).map fun cs => .v (.agg cs) else none
      | some (.array _ e) => match sizeT C.P e with
        | some n => bif ps.all (fun p => noTup p.2) then (fillCells (fun i => some (i * n, n)) zero ps).map fun cs => .v (.agg cs) else none
        | none => none
      | _ => none
    | _, _ => none
  | .buildSlice t len parts => match C.P.underlying t, svParts v parts.toList with
    | some (.slice e), some ps => match sizeT C.P e, zeroT C.P e with
      | some 1, some (.one z) => bif Nat.ble 1 len && (Nat.ble len 4096 && ps.all (fun p => noTup p.2))
          then (fillCells (fun i => some (i * 1, 1)) (List.replicate len z) ps).map fun cs => ⟨.one (.slc new 0 len len), [(new, ⟨cs, true, e, none⟩)], []⟩ else none
      | some (m + 2), some z => bif noTup z && (Nat.beq z.cells.length (m + 2) && (Nat.ble 1 len && (Nat.ble (len * (m + 2)) 4096 && ps.all (fun p => noTup p.2))))
          then (fillCells (fun i => some (i * (m + 2), m + 2)) (zeroCs z len) ps).map fun cs => ⟨.one (.slc new 0 len len), [(new, ⟨cs, true, e, none⟩)], []⟩ else none
      | _, _ => none
    | _, _ => none
  | .makeSlice t ln cp => match makeKs C t, v ln, v cp with
    | some (e, ks, bytes), some (.one (.int _ a)), some (.one (.int _ b)) => match b.iv R with
      | some ivb => bif (ile (bytes * ivb.hi) 281474976710656 && ile ivb.hi 9223372036854775807) || Nat.ble bytes 256 then
          some ⟨.one (.sl new ks.length (.lit 0) (nelE (.zeros (mkMul a (.lit ks.length))) ks.length)), [(new, ⟨[], true, e, some (ks, .zeros (mkMul a (.lit ks.length)))⟩)],
            must (mkLe R (.lit 0) a) ++ (must (mkLe R a b) ++ (bif ile (bytes * ivb.hi) 281474976710656 && ile ivb.hi 9223372036854775807 then [] else must (mkLe R b (.lit 1099511627776))))⟩ else none
      | none => none
    | _, _, _ => none
  | .load t a => match v a with
    | some (.one (.ptr id off)) => match rd id with
      | some r => (partT C.P t r.cs off).map .v
      | none => none
    | some (.one (.ptrx id off n 1 e)) => match rd id with
      | some r => bif !aggT C.P t && (C.P.underlying t).isSome && Nat.ble (off + n) r.cs.length then (selCell e ((r.cs.drop off).take n)).map .c else none
      | none => none
    | some (.one (.lp id s e f)) => match rd id with
      | some r => match r.tl with
        | some (ks, l) => match ks[f]? with
          | some k => bif !aggT C.P t && (C.P.underlying t).isSome && Nat.beq s ks.length
            then some ⟨.one (ekCell R k (.at l (flatE e s f))), [], must (mkLt R (flatE e s f) (.len l))⟩ else none
          | none => none
        | none => none
      | none => none
    | _ => none
  | .store t a x => match v a, v x with
    | some (.one (.ptr id off)), some x => match rd id with
      | some r => bif noTup x && (r.own && r.tl.isNone) && decide (sizeT C.P t = some x.cells.length) && Nat.ble (off + x.cells.length) r.cs.length
          then some ⟨.undef, [(id, { r with cs := splice r.cs x.cells off })], []⟩ else none
      | none => none
    | some (.one (.ptrx id off n 1 e)), some (.one (.int k x)) => match rd id with
      | some r => bif (r.own && r.tl.isNone) && decide (sizeT C.P t = some 1) && Nat.ble (off + n) r.cs.length && (intEs k ((r.cs.drop off).take n)).isSome
          then some ⟨.undef, [(id, { r with cs := splice r.cs (putCells e k x 0 ((r.cs.drop off).take n)) off })], []⟩ else none
      | none => none
    | some (.one (.lp id s e f)), some (.one c) => match rd id with
      | some r => match r.tl with
        | some (ks, l) => match ks[f]? with
          | some k => match kdE R k.kd c with
            | some x => bif r.own && (Nat.beq s ks.length && decide (sizeT C.P t = some 1))
                then some ⟨.undef, [(id, { r with tl := some (ks, .set l (flatE e s f) x) })], must (mkLt R (flatE e s f) (.len l))⟩ else none
            | none => none
          | none => none
        | none => none
      | none => none
    | _, _ => none
  | .nilCheck x => match v x with
    | some (.one (.ptr id off)) => some (.c (.ptr id off))
    | some (.one (.lp id s e f)) => some (.c (.lp id s e f))
    | _ => none
  | .binOp op t x y _ => match v x, v y with
    | some (.one (.int k a)), some (.one (.int k' b)) => match op with
      | .shl | .shr => shiftInt R op k a b
      | _ => bif decide (k = k') then binInt R op k a b else none
    | some x, some y => bif shapeOk C.P t x && shapeOk C.P t y then match op with
      | .eql => (eqV C.P R 8 t x.cells y.cells).map fun b => .c (.bool b)
      | .neq => (eqV C.P R 8 t x.cells y.cells).map fun b => .c (.bool (mkNot b))
      | _ => none else none
    | _, _ => none
  | .makeInterface t x => match C.P.underlying t, v x with
    | some (.int k), some (.one (.int k' e)) => bif decide (k = k') then some (.c (.ifc t k e)) else none
    | _, _ => none
  | .unOp op _ x => match op, v x with
    | .not, some (.one (.bool b)) => some (.c (.bool (mkNot b)))
    | .neg, some (.one (.int k a)) => some (.c (.int k (mkWrap R k (mkSub (.lit 0) a))))
    | _, _ => none
  | .convert s d x => match C.P.underlying s, intK C.P d, v x with
    | some _, some k, some (.one (.int _ a)) => some (.c (.int k (mkWrap R k a)))
    | _, _, _ => none
  | .fieldAddr s x f => match fieldAt C.P s f, v x with
    | some fl, some (.one (.ptr id off)) => match sizeT C.P fl.type with
      | some (_ + 1) => some (.c (.ptr id (off + fl.offset)))
      | _ => none
    | some fl, some (.one (.lp id s e k)) => match sizeT C.P fl.type with
      | some (_ + 1) => some (.c (.lp id s e (k + fl.offset)))
      | _ => none
    | _, _ => none
  | .field s x f => match fieldAt C.P s f, v x with
    | some fl, some (.agg cs) => (partT C.P fl.type cs fl.offset).map .v
    | _, _ => none
  | .indexAddr t x i => match C.P.underlying t, v x, v i with
    | some (.array n e), some (.one (.ptr id off)), some (.one (.int _ ix)) => match sizeT C.P e with
      | some m => match ix with
        | .lit (.ofNat j) => bif Nat.blt j n then some (.c (.ptr id (off + j * m))) else none
        | ix => bif Nat.blt 1 n then some ⟨.one (.ptrx id off n m ix), [], must (mkLe R (.lit 0) ix) ++ must (mkLt R ix (.lit n))⟩ else none
      | none => none
    | some (.slice e), some (.one (.slc id off n _)), some (.one (.int _ (.lit (.ofNat j)))) => match sizeT C.P e with
      | some m => bif Nat.blt j n then some (.c (.ptr id (off + j * m))) else none
      | none => none
    | some (.array n e), some (.one (.lp id s p f)), some (.one (.int _ (.lit (.ofNat j)))) => match sizeT C.P e with
      | some m => bif Nat.blt j n then some (.c (.lp id s p (f + j * m))) else none
      | none => none
    | some (.slice e), some (.one (.sl id s off len)), some (.one (.int _ ix)) => match sizeT C.P e with
      | some m => match (rd id).bind (·.tl) with
        | some (_, l) => bif Nat.beq m s then some ⟨.one (.lp id s (mkAdd off ix) 0), [], must (mkLe R (.lit 0) ix) ++ (must (mkLt R ix len) ++
            (bif off.eqb (.lit 0) && len.eqb (nelE l s) then [] else must (mkLt R (mkAdd off ix) (nelE l s))))⟩ else none
        | none => none
      | none => none
    | _, _, _ => none
  | .index t x i => match C.P.underlying t, v x, v i with
    | some (.array n e), some (.agg cs), some (.one (.int _ ix)) => match sizeT C.P e with
      | some m => match ix with
        | .lit (.ofNat j) => bif Nat.blt j n then (partT C.P e cs (j * m)).map .v else none
        | ix => bif Nat.beq m 1 && !aggT C.P e && (C.P.underlying e).isSome && Nat.beq cs.length n && Nat.blt 0 n then (selCell ix cs).map fun c => ⟨.one c, [], must (mkLe R (.lit 0) ix) ++ must (mkLt R ix (.lit n))⟩ else none
      | none => none
    | some .string, some (.one (.str l)), some (.one (.int _ ix)) => match l.iv R with
      | some p => bif p.1.sub ⟨0, 255⟩ then some ⟨.one (.int .u8 (.at l ix)), [], must (mkLe R (.lit 0) ix) ++ must (mkLt R ix (.len l))⟩ else none
      | none => none
    | _, _, _ => none
  | .slice t x none hi none => match C.P.underlying t, v x, hi.map v with
    | some (.array n e), some (.one (.ptr id off)), none => bif Nat.blt 0 n && (sizeT C.P e).isSome then some (.c (.slc id off n n)) else none
    | some (.array n e), some (.one (.ptr id off)), some (some (.one (.int _ (.lit (.ofNat j))))) => bif Nat.blt 0 n && (Nat.ble j n && (sizeT C.P e).isSome) then some (.c (.slc id off j n)) else none
    | _, _, _ => none
  | .sliceToArrayPointer t x => match C.P.underlying t, v x with
    | some (.array n _), some (.one (.slc id off len _)) => bif Nat.ble n len then some (.c (.ptr id off)) else none
    | _, _ => none
  | .extract t i => match v t with
    | some (.tup vs) => match vs.drop i with
      | (true, cs) :: _ => some (.v (.agg cs))
      | (false, [c]) :: _ => some (.c c)
      | _ => none
    | _ => none
  | .call c => match c.callee with
    | .value _ => match callOp C R v rd o with
      | some (g, s, as) => bif memN g C.pfs then (bif isPanOp C o && pfOk s then (resSV (resComps R g as 1 s.res.tail)).map fun x => ⟨x, [], (bif s.total then [] else [.pre g as]) ++ [.pan (.app g 0 as)]⟩ else none)
        else (resSV (resComps R g as 0 s.res)).map fun x => ⟨x, [], bif s.total then [] else [.pre g as]⟩
      | none => none
    | .builtin .copy => match svs v c.args.toList, (c.argTypes[0]?).bind C.P.underlying with
      | some [.one (.slc id off len _), .one (.slc id' off' len' _)], some (.slice e) => match rd id, rd id', sizeT C.P e with
        | some g, some g', some m =>
          bif (g.own && g.tl.isNone) && (Nat.ble (off + Nat.min len' len * m) g.cs.length && Nat.ble (off' + Nat.min len' len * m) g'.cs.length)
          then some ⟨.one (.int .i64 (.lit (Nat.min len' len))), [(id, { g with cs := splice g.cs ((g'.cs.drop off').take (Nat.min len' len * m)) off })], []⟩ else none
        | _, _, _ => none
      | _, _ => none
    | .builtin .len => match svs v c.args.toList, (c.argTypes[0]?).bind C.P.underlying with
      | some [.one (.str l)], some .string => some (.c (.int .i64 (.len l)))
      | some [_], some (.array n _) => some (.c (.int .i64 (.lit n)))
      | some [.one (.slc _ _ n _)], some (.slice _) => some (.c (.int .i64 (.lit n)))
      | some [.one (.sl _ _ _ len)], some (.slice _) => some (.c (.int .i64 len))
      | some [.one .nils], some (.slice _) => some (.c (.int .i64 (.lit 0)))
      | _, _ => none
    | .builtin .max => match svs v c.args.toList with
      | some [.one (.int k a), .one (.int k' b)] => bif decide (k = k') then some (.c (.int k (mkIte (mkLt R a b) b a))) else none
      | _ => none
    | .builtin .min => match svs v c.args.toList with
      | some [.one (.int k a), .one (.int k' b)] => bif decide (k = k') then some (.c (.int k (mkIte (mkLt R b a) b a))) else none
      | _ => none
    | _ => none
  | _ => none

/-! ## Regions -/
/-- What an operation has looked at and written: the temporaries that it reads, the one that it writes; the blocks that it reads and writes. -/
structure Fp where
  ix : Nat
  rt : List Nat
  wt : Option Nat
  rh : List Nat
  wh : List Nat

def operandTmps (o : Op) : List Nat := o.operands.toList.filterMap fun | .tmp t => some t | _ => none

/-- The temporaries that an operation reads, its guard's among them. -/
def readsT (ops : Array Oper) (o : Oper) : List Nat := match o.guard with
  | some (g, _) => match (ops[g]?).bind (·.dst) with
    | some t => t :: operandTmps o.op
    | none => operandTmps o.op
  | none => operandTmps o.op

def disj : List Nat → List Nat → Bool
  | [], _ => true
  | x :: r, l => !memN x l && disj r l
def optL : Option Nat → List Nat
  | some x => [x]
  | none => []

def Fp.apart (a b : Fp) : Bool :=
  disj (optL a.wt) b.rt && (disj (optL a.wt) (optL b.wt) && (disj (optL b.wt) a.rt && (disj a.wh b.rh && (disj a.wh b.wh && disj b.wh a.rh))))

/-- What an operation waits for, in every order. -/
def predsOf (ops : Array Oper) (j : Nat) : List Nat := match ops[j]? with
  | some o => (o.after.toList.filter fun e => Region.binds .any e).map (·.on)
  | none => []

/-- a comes before b, by n edges at most. -/
def chainB (ops : Array Oper) (a : Nat) : Nat → Nat → Bool
  | 0, _ => false
  | n + 1, b => let l := predsOf ops b; memN a l || l.any fun p => Nat.blt a p && chainB ops a n p

/-- Each two operations of a run, in the text's order: apart, or the second one waits for the first. -/
def okOrder (ops : Array Oper) : List Fp → Bool
  | [] => true
  | a :: r => r.all (fun b => a.apart b || chainB ops a.ix 4 b.ix) && okOrder ops r

/-- No operation waits for itself or for a later one. -/
def okEdges (ops : Array Oper) : Bool := (List.range ops.size).all fun j => (predsOf ops j).all fun p => Nat.blt p j

inductive Gd where
  | run
  | skip
  | ask (b : B)
  | bad

/-- Is an operation carried out? -/
def guardOf (ops : Array Oper) (S : St) (o : Oper) : Gd := match o.guard with
  | none => .run
  | some (g, want) => match (ops[g]?).bind (·.dst) with
    | some t => match getT S.tmps t with
      | .one (.bool b) => .ask (bif want then b else mkNot b)
      | .tup [] => .skip
      | _ => .bad
    | none => .bad

/-- What a choice ('pick') asks. -/
def pickOf (S : St) (o : Op) : Option B := match o with
  | .pick c _ _ => match valOf S c with
    | some (.one (.bool b)) => some b
    | _ => none
  | _ => none

def wrAll (hp : List (Option Reg)) : List (Nat × Reg) → List (Option Reg)
  | [] => hp
  | (id, r) :: ws => wrAll (setH hp id (some r)) ws

def isNew (o : Op) : Bool := match o with
  | .alloc _ | .box _ _ | .buildSlice _ _ _ | .makeSlice _ _ _ => true
  | _ => false

/-! ### Calls that return a copy -/
def copyFn (C : Cfg) (q : Op) : Option (Nat × PSh × List TypeId) := match q with
  | .call c => match c.callee with
    | .value (.func g) => (cpOf C.cps g).map fun p => (g, p.1, p.2)
    | _ => none
  | _ => none
def isApp (q : Op) : Bool := match q with
  | .call c => match c.callee with
    | .builtin .append => true
    | _ => false
  | _ => false
/-- The beginning of a slice. -/
def isSub (q : Op) : Bool := match q with
  | .slice _ _ none (some _) none => true
  | _ => false
/-- How many blocks an operation makes. -/
def newsOf (C : Cfg) (q : Op) : Nat := match copyFn C q with
  | some (_, p, _) => p.lss.length
  | none => bif isSub q then 1 else bif isNew q || isApp q then 1 else 0
def AS.ls : AS → List L
  | .nil => []
  | .e _ as => as.ls
  | .l a as => a :: as.ls
def cpCells : (new : Nat) → List (List EK) → List L → List Cell
  | new, ks :: kss, l :: ls => .sl new ks.length (.lit 0) (nelE l ks.length) :: cpCells (new + 1) kss ls
  | _, _, _ => []
def cpWr : (new : Nat) → List (List EK) → List TypeId → List L → List (Nat × Reg)
  | new, ks :: kss, ty :: tys, l :: ls => (new, ⟨[], true, ty, some (ks, l)⟩) :: cpWr (new + 1) kss tys ls
  | _, _, _, _ => []
/-- No list that is copied is longer. -/
def cpMax : Int := 1099511627776
def cpOs (R : Bds) (ls : List L) : List O := ls.flatMap fun l => must (mkLe R (.len l) (.lit cpMax))
def cpLvs (p : PSh) : List (Iv × Int) := p.lss.map fun ks => (kindsIv ks, cpMax)
def LSig.lvs (s : LSig) : List (Iv × Int) := (lsKss s.res).map fun ks => (kindsIv ks, cpMax)
def copyRun (C : Cfg) (R : Bds) (v : Operand → Option SV) (rd : Nat → Option Reg) (new g : Nat) (p : PSh) (tys : List TypeId) (q : Op) : Option Res := match q with
  | .call c => match svs v c.args.toList with
    | some [x] => match argAS R rd p x .nil with
      | some as => bif plainFn C.P g then (match p with
        | .lst ks => some ⟨.agg (cpCells new [ks] as.ls), cpWr new [ks] tys as.ls, cpOs R as.ls⟩
        | .lsts kss => some ⟨.agg (cpCells new kss as.ls), cpWr new kss tys as.ls, cpOs R as.ls⟩
        | _ => none) else none
      | none => none
    | _ => none
  | _ => none
/-- A copy of a slice alone. -/
def Res.one (p : PSh) (r : Res) : Option Res := match p with
  | .lst _ => match r.val with
    | .agg [c] => some { r with val := .one c }
    | _ => none
  | _ => some r

/-- The blocks of the slices that stand in some blocks. -/
def nested (hp : List (Option Reg)) (l : List Nat) : List Nat := l.flatMap fun id => match getH hp id with
  | some r => slIds r.cs
  | none => []
def idsOf (S : St) (o : Op) : List Nat := let l := opIds (valOf S) o
  l ++ nested S.heap l

/-! ### Elements of several cells -/
/-- The numbers of cells of these kinds. -/
def intCs (R : Bds) : List EK → List Cell → Option (List E)
  | [], [] => some []
  | k :: ks, c :: cs => match kdE R k.kd c, intCs R ks cs with
    | some e, some es => some (e :: es)
    | _, _ => none
  | _, _ => none
def setAll (l : L) (e : E) (s : Nat) : Nat → List E → L
  | _, [] => l
  | f, x :: r => setAll (.set l (flatE e s f) x) e s (f + 1) r
def isLen : E → Bool
  | .len _ => true
  | .div (.len _) _ => true
  | _ => false
def bndE (v : Operand → Option SV) (len : E) : Option Operand → Option E
  | none => some len
  | some p => match v p with
    | some (.one (.int _ a)) => some a
    | _ => none
def ptrsOf : List SV → Option (List (Nat × Nat))
  | [] => some []
  | .one (.ptr i o) :: r => (ptrsOf r).map ((i, o) :: ·)
  | _ :: _ => none
/-- Further operations. -/
def moreRun (C : Cfg) (R : Bds) (v : Operand → Option SV) (rd : Nat → Option Reg) (q : Op) : Option Res := match q with
  | .load t a => match v a with
    | some (.one (.lp id s e f)) => match rd id, sizeT C.P t with
      | some r, some (n + 1) => match r.tl with
        | some (ks, l) => bif aggT C.P t && ((C.P.underlying t).isSome && (Nat.beq s ks.length && Nat.ble (f + (n + 1)) ks.length)) then
            some ⟨.agg (lpCells R l e s f ((ks.drop f).take (n + 1))), [], must (mkLt R (flatE e s (f + n)) (.len l))⟩ else none
        | none => none
      | _, _ => none
    | _ => none
  | .store t a x => match v a, v x with
    | some (.one (.lp id s e f)), some (.agg cs) => match rd id, sizeT C.P t with
      | some r, some (n + 1) => match r.tl with
        | some (ks, l) => match intCs R ((ks.drop f).take (n + 1)) cs with
          | some es => bif r.own && (Nat.beq s ks.length && Nat.ble (f + (n + 1)) ks.length) then
              some ⟨.undef, [(id, { r with tl := some (ks, setAll l e s f es) })], must (mkLt R (flatE e s (f + n)) (.len l))⟩ else none
          | none => none
        | none => none
      | _, _ => none
    | _, _ => none
  | .move x => match v x with
    | some (.one (.sl id s off len)) => match rd id with
      | some r => match r.tl with
        | some (_, l) => bif r.own && (isLen len && !(len.eqb (nelE (stripS l) s))) then some ⟨.one (.sl id s off (nelE (stripS l) s)), [], must (mkEq R len (nelE (stripS l) s))⟩ else none
        | none => none
      | none => none
    | _ => none
  | .slice t x none hi none => match C.P.underlying t, v x with
    | some (.slice el), some (.one (.sl id s off len)) => match bndE v len hi, rd id, sizeT C.P el with
      | some b, some r, some m => match r.tl with
        | some (ks, l) => bif Nat.beq m s && Nat.beq s ks.length then some ⟨.one (.sl id s off b), [], must (mkLe R (.lit 0) b) ++ must (mkLe R (mkAdd off b) (nelE l s))⟩ else none
        | none => none
      | _, _, _ => none
    | _, _ => none
  | .binOp .add _ x y _ => match v x, v y with
    | some (.one (.str a)), some (.one (.str b)) => some ⟨.one (.str (.cat a b)), [], must (mkLe R (.len (.cat a b)) (.lit 9223372036854775807))⟩
    | _, _ => none
  | .binOp .eql t x y _ => match C.P.underlying t, v x, v y with
    | some (.slice _), some (.one (.sl id s off len)), some (.one .nils) => match rd id with
      | some r => match r.tl with
        | some (ks, l) => bif Nat.blt 0 ks.length && (Nat.beq s ks.length && (off.eqb (.lit 0) && len.eqb (nelE l s))) then some ⟨.one (.bool (.lit false)), [], must (mkLt R (.lit 0) (.len l))⟩ else none
        | none => none
      | none => none
    | _, _, _ => none
  | .convert s t x => match C.P.underlying s, C.P.underlying t, v x with
    | some (.slice el), some .string, some (.one (.sl id sz off len)) => match intK C.P el, rd id with
      | some .u8, some r => match r.tl with
        | some (ks, l) => bif decide (ks = [.u8]) && (Nat.beq sz 1 && (off.eqb (.lit 0) && len.eqb (nelE l 1))) then some (.c (.str l)) else none
        | none => none
      | _, _ => none
    | some (.slice el), some .string, some (.one .nils) => match intK C.P el with
      | some .u8 => some (.c (.str (.lit [])))
      | _ => none
    | _, _, _ => none
  | .makeFunc (.func g) first cap => bif first.toList.isEmpty then ((svs v cap.toList).bind ptrsOf).map fun ps => .c (.clo g ps) else none
  | .call c => match c.callee with
    | .builtin .max => match svs v c.args.toList with
      | some [.one (.int k a), .one (.int k' b), .one (.int k'' f)] => bif decide (k = k') && decide (k = k'') then some (.c (.int k (mkIte (mkLt R (mkIte (mkLt R a b) b a) f) f (mkIte (mkLt R a b) b a)))) else none
      | _ => none
    | _ => none
  | _ => none

/-! ### The beginning of a slice that is only read: a block of its own -/
def takeE (l : L) (b : E) (s : Nat) : L := .take l (bif Nat.beq s 1 then b else .mul b (.lit s))
def subRun (C : Cfg) (R : Bds) (v : Operand → Option SV) (rd : Nat → Option Reg) (new : Nat) (q : Op) : Option Res := match q with
  | .slice t x none (some hi) none => match C.P.underlying t, v x with
    | some (.slice el), some (.one (.sl id s off len)) => match bndE v len (some hi), rd id, sizeT C.P el with
      | some b, some r, some m => match r.tl with
        | some (ks, l) => bif !r.own && (Nat.beq m s && (Nat.beq s ks.length && off.eqb (.lit 0))) then
            some ⟨.one (.sl new s (.lit 0) (nelE (takeE l b s) s)), [(new, ⟨[], false, r.ty, some (ks, takeE l b s)⟩)], must (mkLe R (.lit 0) b) ++ must (mkLe R b (nelE l s))⟩ else none
        | none => none
      | _, _, _ => none
    | _, _ => none
  | _ => none

/-! ### Lists that grow -/
def appOp (q : Op) : Option Call := match q with
  | .call c => match c.callee with
    | .builtin .append => some c
    | _ => none
  | _ => none
def mkCat (a b : L) : L := match a, b with
  | .lit [], b => b
  | a, .lit [] => a
  | a, b => .cat a b
/-- The kind of a cell of a list of elements. -/
def kindAt (ks : List EK) (i : Nat) : EK := ks.getD (i % ks.length) .i64
/-- The numbers of cells of these kinds, from place i on, as a list. -/
def cellsL (R : Bds) (ks : List EK) : Nat → List Cell → Option L
  | _, [] => some (.lit [])
  | i, c :: r => match kdE R (kindAt ks i).kd c, cellsL R ks (i + 1) r with
    | some e, some l => some (mkCat (.one e) l)
    | _, _ => none
/-- What is appended: the numbers of a small slice, or a list that is not empty. -/
def appNew (R : Bds) (rd : Nat → Option Reg) (ks : List EK) (em : Bool) (x : Cell) : Option (L × List O) := match x with
  | .slc id off n _ => match rd id with
    | some r => bif r.tl.isNone && (Nat.ble 1 n && Nat.ble (off + n * ks.length) r.cs.length) then (cellsL R ks 0 ((r.cs.drop off).take (n * ks.length))).map fun l => (l, []) else none
    | none => none
  | .sl id s off len => match rd id with
    | some r => match r.tl with
      | some (ks', l) => bif decide (ks' = ks) && (Nat.beq s ks.length && (off.eqb (.lit 0) && len.eqb (nelE l s))) then some (l, bif em && r.own then [] else must (mkLt R (.lit 0) (.len l))) else none
      | none => none
    | none => none
  | _ => none
def Cell.isSl : Cell → Bool
  | .sl _ _ _ _ => true
  | _ => false
/-- To what it is appended: the list, and what becomes of its block's old number: it stands for nothing any more. -/
def appOld (rd : Nat → Option Reg) (ks : List EK) (e : TypeId) (c : Cell) : Option (L × List (Nat × Reg)) := match c with
  | .nils => some (.lit [], [])
  | .sl id s off len => match rd id with
    | some r => match r.tl with
      | some (ks', l) => bif r.own && (Nat.beq r.ty e && (decide (ks' = ks) && (Nat.beq s ks.length && (off.eqb (.lit 0) && len.eqb (nelE l s))))) then some (l, [(id, ⟨[], false, e, some (ks, .lit [])⟩)]) else none
      | none => none
    | none => none
  | _ => none
def appRun (C : Cfg) (R : Bds) (v : Operand → Option SV) (rd : Nat → Option Reg) (new : Nat) (c : Call) : Option Res := match svs v c.args.toList, c.argTypes.toList with
  | some [.one s, .one x], [t, t'] => bif Nat.beq t t' then (match makeKs C t with
    | some (e, ks, bytes) => match appNew R rd ks (Cell.isSl s) x, appOld rd ks e s with
      | some (ln, os), some (l, old) => bif Nat.ble bytes 128 then some ⟨.one (.sl new ks.length (.lit 0) (nelE (mkCat l ln) ks.length)), old ++ [(new, ⟨[], true, e, some (ks, mkCat l ln)⟩)], os ++ must (mkLe R (.len (mkCat l ln)) (.lit cpMax))⟩ else none
      | _, _ => none
    | none => none) else none
  | _, _ => none

/-- A slice of nothing. -/
def nilOp (C : Cfg) (q : Op) : Option (TypeId × List EK) := match q with
  | .buildSlice t n ps => bif Nat.beq n 0 && ps.toList.isEmpty then (makeKs C t).map fun p => (p.1, p.2.1) else none
  | _ => none
def nilRun (new : Nat) (p : TypeId × List EK) : Res := ⟨.one (.sl new p.2.length (.lit 0) (nelE (.lit []) p.2.length)), [(new, ⟨[], true, p.1, some (p.2, .lit [])⟩)], []⟩

/-- A slice that is written down, and is a list. -/
def bslRun (C : Cfg) (R : Bds) (v : Operand → Option SV) (new : Nat) (q : Op) : Option Res := match q with
  | .buildSlice t n ps => bif memN t C.bls then (match makeKs C t, opRun C R (.buildSlice t n ps) v (fun _ => none) new with
    | some (e, ks, _), some ⟨.one (.slc _ _ m _), [(_, g)], _⟩ => match cellsL R ks 0 g.cs with
      | some l => bif Nat.beq g.cs.length (m * ks.length) then some ⟨.one (.sl new ks.length (.lit 0) (nelE l ks.length)), [(new, ⟨[], true, e, some (ks, l)⟩)], []⟩ else none
      | none => none
    | _, _ => none) else none
  | _ => none

/-- One operation, its choice decided by 'd'. -/
def opStep (C : Cfg) (R : Bds) (o : Op) (d : Bool) (S : St) (new : Nat) : Option Res := match o with
  | .pick c x y => match valOf S c with
    | some (.one (.bool _)) => (valOf S (bif d then x else y)).map .v
    | _ => none
  | o => match copyFn C o with
    | some (g, p, tys) => (copyRun C R (valOf S) (fun id => bif memN id (idsOf S o) then getH S.heap id else none) new g p tys o).bind (Res.one p)
    | none => match subRun C R (valOf S) (fun id => bif memN id (idsOf S o) then getH S.heap id else none) new o with
     | some r => some r
     | none => match moreRun C R (valOf S) (fun id => bif memN id (idsOf S o) then getH S.heap id else none) o with
      | some r => some r
      | none => match appOp o with
        | some c => appRun C R (valOf S) (fun id => bif memN id (idsOf S o) then getH S.heap id else none) new c
        | none => match nilOp C o with
          | some p => some (nilRun new p)
          | none => match bslRun C R (valOf S) new o with
           | some r => some r
           | none => opRun C R o (valOf S) (fun id => bif memN id (idsOf S o) then getH S.heap id else none) new

def Res.put (r : Res) (dst : Option Nat) (S : St) : St := { tmps := (S.put dst r.val).tmps, heap := wrAll S.heap r.wr }

def mkFp (ops : Array Oper) (i : Nat) (o : Oper) (S : St) (r : Res) : Fp :=
  ⟨i, readsT ops o, o.dst, idsOf S o.op, r.wr.map (·.1)⟩
def skipFp (ops : Array Oper) (i : Nat) (o : Oper) : Fp := ⟨i, readsT ops o, o.dst, [], []⟩

inductive Ex where
  | normal
  | exit (id : Nat)
  | goto (l : Nat)
  | ret
  /-- a panic with a number -/
  | pan (t : TypeId) (e : E)

/-- The tree that a run is: at its leaves how it ends, and where. -/
inductive T where
  | fail (why : Nat)
  | leaf (x : Ex) (R : Bds) (S : St)
  | ite (b : B) (t e : T)
  | need (os : List O) (t : T)
  | bind (e : E) (t : T)
  | call (g : Nat) (as : AS) (n : Nat) (t : T)
  | calll (g : Nat) (as : AS) (rs : List Iv) (lrs : List (Iv × Int)) (t : T)
  | again (k n0 m0 : Nat) (rs : List Iv) (es : List E) (les : List L)
  | loop (k : Nat) (es : List E) (les : List L) (rs : List Iv) (lrs : List (Iv × Int)) (t : T)

def O.isFalse : O → Bool
  | .b (.lit v) => !v
  | _ => false
@[macro_inline] def needT (os : List O) (t : T) : T := match os with
  | [] => t
  | os => bif os.any O.isFalse then .fail 16 else .need os t

/-! ### What is decided on the way -/



def setIv : List Iv → Nat → (Iv → Iv) → List Iv
  | [], _, _ => []
  | a :: r, 0, f => f a :: r
  | a :: r, n + 1, f => a :: setIv r n f

/-- Tighter bounds of the variables behind a test that has been decided. -/
def refine (b : B) (v : Bool) (i : List Iv) : List Iv := match b, v with
  | .lt (.var x) (.lit n), true => setIv i x fun a => ⟨a.lo, imin a.hi (n - 1)⟩
  | .lt (.var x) (.lit n), false => setIv i x fun a => ⟨imax a.lo n, a.hi⟩
  | .lt (.lit n) (.var x), true => setIv i x fun a => ⟨imax a.lo (n + 1), a.hi⟩
  | .lt (.lit n) (.var x), false => setIv i x fun a => ⟨a.lo, imin a.hi n⟩
  | .eq (.var x) (.lit n), true => setIv i x fun a => ⟨imax a.lo n, imin a.hi n⟩
  | .eq (.var x) (.lit n), false => setIv i x fun a => ⟨bif ile a.lo n && ile n a.lo then n + 1 else a.lo, bif ile a.hi n && ile n a.hi then n - 1 else a.hi⟩
  | _, _ => i

def Bds.assume (R : Bds) (b : B) (v : Bool) : Bds := match canon b with
  | (c, f) => { R with p := (c, bif f then v else !v) :: R.p, i := refine c (bif f then v else !v) R.i }

/-- Ask a test: known, or both ways. -/
def askT (R : Bds) (b : B) (yes no : Bds → T) : T := match known R.p b with
  | some true => yes R
  | some false => no R
  | none => .ite b (yes (R.assume b true)) (no (R.assume b false))

/-! ### Binding -/
def E.small : E → Bool
  | .lit _ | .var _ => true
  | .add (.var _) (.lit _) | .sub (.var _) (.lit _) => true
  | _ => false
def B.small : B → Bool
  | .lit _ => true
  | .lt a b | .le a b | .eq a b => a.small && b.small
  | .not (.eq a b) => a.small && b.small
  | _ => false

def Cell.sc (n m : Nat) : Cell → Bool
  | .int _ e => e.sc n m
  | .bool b => b.sc n m
  | .ptrx _ _ _ _ e => e.sc n m
  | .str l => l.sc n m
  | .sl _ _ o l => o.sc n m && l.sc n m
  | .lp _ _ e _ => e.sc n m
  | .ifc _ _ e => e.sc n m
  | _ => true
def SV.sc (n m : Nat) : SV → Bool
  | .one c => c.sc n m
  | .agg cs => cs.all (·.sc n m)
  | .tup vs => vs.all fun v => v.2.all (·.sc n m)
  | .any => true
def tlSc (n m : Nat) : Option (List EK × L) → Bool
  | some p => p.2.sc n m
  | none => true
def regSc (n m : Nat) : Option Reg → Bool
  | some r => r.cs.all (·.sc n m) && tlSc n m r.tl
  | none => true
def St.sc (n m : Nat) (S : St) : Bool := S.tmps.all (·.sc n m) && S.heap.all (regSc n m)
/-- All that is asked of an environment that grows: state, path. -/
def scAll (R : Bds) (S : St) : Bool := S.sc R.i.length R.l.length && R.p.all fun q => q.1.sc R.i.length R.l.length

/-- A cell whose number is not small: the number, and the cell with a variable in its place. -/
def Cell.cut (R : Bds) (n : Nat) : Cell → Option (E × Iv × Cell)
  | .int k e => bif e.small then none else (e.iv R).map fun iv => (e, iv, .int k (.var n))
  | .bool b => bif b.small then none else match (ofB R b).iv R with
    | some iv => bif ile 0 iv.lo && ile iv.hi 1 then some (ofB R b, iv, .bool (.eq (.var n) (.lit 1))) else none
    | none => none
  | _ => none

/-- The first such cell of a list. -/
def cutCells (R : Bds) (n : Nat) : List Cell → Option (E × Iv × List Cell)
  | [] => none
  | c :: cs => match c.cut R n with
    | some (e, iv, c') => some (e, iv, c' :: cs)
    | none => (cutCells R n cs).map fun p => (p.1, p.2.1, c :: p.2.2)

inductive Pl where
  | t (t : Nat)
  | h (id : Nat)

def cutPl (R : Bds) (n : Nat) (S : St) : Pl → Option (E × Iv × St)
  | .t t => match getT S.tmps t with
    | .one c => (c.cut R n).map fun p => (p.1, p.2.1, { S with tmps := setT S.tmps t (.one p.2.2) })
    | .agg cs => (cutCells R n cs).map fun p => (p.1, p.2.1, { S with tmps := setT S.tmps t (.agg p.2.2) })
    | _ => none
  | .h id => match getH S.heap id with
    | some r => (cutCells R n r.cs).map fun p => (p.1, p.2.1, { S with heap := setH S.heap id (some { r with cs := p.2.2 }) })
    | none => none

def Bds.push (R : Bds) (ivs : List Iv) : Bds := { R with i := R.i ++ ivs }
def Bds.push2 (R : Bds) (ivs : List Iv) (lvs : List (Iv × Int)) : Bds := { R with i := R.i ++ ivs, l := R.l ++ lvs }

/-- Variables for what is large, at some places; then what follows. -/
def bindT (fin : Bds → St → T) : (fuel : Nat) → Bds → List Pl → St → T
  | 0, R, _, S => fin R S
  | _ + 1, R, [], S => fin R S
  | f + 1, R, p :: ps, S => match cutPl R R.i.length S p with
    | some (e, iv, S') => bif e.sc R.i.length R.l.length && scAll R S
        then .bind e (bindT fin f (R.push [iv]) (p :: ps) S') else fin R S
    | none => bindT fin f R ps S

/-- The place of an operation that is bound behind it. -/
def bindOf (S : St) (o : Oper) : List Pl := match o.op, o.dst with
  | .assign _, some d => [.t d]
  | .load _ _, some d => [.t d]
  | .store _ a _, _ => (ptrId (valOf S a)).map .h
  | _, _ => []

/-! ### A region in the text's order -/
/-- A place that is asked for by a number that is not known, among few that are not numbers: the temporary, and how many there are. -/
def idxOf (C : Cfg) (S : St) (q : Op) : Option (Nat × IntKind × E × Nat) := match q with
  | .index t x (.tmp i) => match C.P.underlying t, valOf S x, getT S.tmps i with
    | some (.array n e), some (.agg cs), .one (.int k ix) => bif (headKind cs).isNone && (decide (sizeT C.P e = some 1) && (Nat.beq cs.length n && Nat.ble n 32)) then (match ix with
      | .lit _ => none
      | ix => some (i, k, ix, n)) else none
    | _, _, _ => none
  | .indexAddr t x (.tmp i) => match C.P.underlying t, valOf S x, getT S.tmps i with
    | some (.slice _), some (.one (.slc _ _ n _)), .one (.int k ix) => bif Nat.ble n 32 then (match ix with
      | .lit _ => none
      | ix => some (i, k, ix, n)) else none
    | some (.array n _), some (.one (.ptr id off)), .one (.int k ix) => match getH S.heap id with
      | some r => bif (headKind (r.cs.drop off)).isNone && Nat.ble n 32 then (match ix with
        | .lit _ => none
        | ix => some (i, k, ix, n)) else none
      | none => none
    | _, _, _ => none
  | _ => none
/-- One way for each place. -/
def idxT (t : Nat) (k : IntKind) (ix : E) (S : St) (f : Bds → St → T) : Nat → Nat → Bds → T
  | _, 0, _ => .fail 53
  | j, m + 1, R => askT R (.eq ix (.lit j)) (fun R => f R { S with tmps := setT S.tmps t (.one (.int k (.lit j))) }) (fun R => idxT t k ix S f (j + 1) m R)

/-- A panic with a number. -/
def panOp (S : St) : Op → Option (TypeId × E)
  | .panic x => match valOf S x with
    | some (.one (.ifc t .i64 e)) => some (t, e)
    | _ => none
  | _ => none
def seqT (C : Cfg) (ops : Array Oper) (fin : Bds → St → T) : List Oper → (new : Nat) → Bds → St → T
  | [], _, R, S => fin R S
  | o :: rest, new, R, S =>
    let next (R : Bds) (S : St) : T := seqT C ops fin rest (new + newsOf C o.op) R S
    let goS (S : St) (d : Bool) (R : Bds) : T := match opStep C R o.op d S new with
      | some r => bif (panEs r.os).isEmpty then needT r.os (bindT next 100 R (bindOf S o) (r.put o.dst S)) else .fail 57
      | none => .fail 1
    let go (d : Bool) (R : Bds) : T := goS S d R
    let run (R : Bds) : T := match panOp S o.op with
     | some (t, e) => .leaf (.pan t e) R S
     | none => match callOp C R (valOf S) (fun id => bif memN id (idsOf S o.op) then getH S.heap id else none) o.op with
      | some (g, s, as) =>
        bif memN g C.pfs then (bif pfOk s && (as.sc R.i.length R.l.length && scAll R S) then
          match resSV (varComps (R.i.length + 1) s.res.tail) with
          | some v => needT (bif s.total then [] else [.pre g as]) (.call g as (resKds s).length (askT (R.push ((resKds s).map Kd.iv)) (.eq (.var R.i.length) (.lit 0))
              (fun R => next R (S.put o.dst v)) (fun R' => .leaf (.pan C.pty (.var R.i.length)) R' S)))
          | none => .fail 54
          else .fail 55) else
        bif as.sc R.i.length R.l.length && scAll R S then
          match resSV (varComps R.i.length s.res) with
          | some v => needT (bif s.total then [] else [.pre g as]) (.call g as (resKds s).length (next (R.push ((resKds s).map Kd.iv)) (S.put o.dst v)))
          | none => .fail 2
        else .fail 3
      | none => bif isPanOp C o.op then .fail 56 else match lcOp C R (valOf S) (fun id => bif memN id (idsOf S o.op) then getH S.heap id else none) o.op with
        | some (g, s, as) =>
          bif as.sc R.i.length R.l.length && scAll R S then
            match resSV (lComps (R.i.length + 1) (List.replicate (lsKss s.res).length .nils) s.res), resSV (lComps (R.i.length + 1) (cpCells S.heap.length (lsKss s.res) (varLs R.l.length (lsKss s.res).length)) s.res) with
            | some vn, some vl => needT (bif s.total then [] else [.pre g as]) (.calll g as s.ivs s.lvs (askT (R.push2 s.ivs s.lvs) (mkEq (R.push2 s.ivs s.lvs) (.var R.i.length) (.lit 1))
                (fun R => next R (S.put o.dst vn))
                (fun R' => next R' (St.put { S with heap := wrAll (S.heap ++ List.replicate (lsKss s.res).length none) (cpWr S.heap.length (lsKss s.res) (lsTys s.res) (varLs R.l.length (lsKss s.res).length)) } o.dst vl))))
            | _, _ => .fail 5
          else .fail 6
        | none => match wcOp C R (valOf S) (fun id => bif memN id (idsOf S o.op) then getH S.heap id else none) o.op with
          | some (g, s, q, as) =>
            bif as.sc R.i.length R.l.length && scAll R S then
              match resSV (varComps R.i.length s.res) with
              | some v => needT (bif s.total then [] else [.pre g as]) (.calll g as s.ivs [s.lv] (next (R.push2 s.ivs [s.lv]) ((S.wrote R.l.length s q).put o.dst v)))
              | none => .fail 7
            else .fail 8
          | none => match w2Op C (valOf S) o.op with
          | some (g, s, x, y, k) => bif scAll R S && y.sc R.i.length R.l.length then
              match wHalf R (fun id => getH S.heap id) s x k with
              | some (q1, as1) => bif as1.sc R.i.length R.l.length then
                  needT [.pre g as1] (.calll g as1 s.ivs [s.lv]
                    (match wHalf (R.push2 s.ivs [s.lv]) (fun id => getH (S.wrote R.l.length s q1).heap id) s y (.var R.i.length) with
                    | some (q2, as2) => bif as2.sc (R.i.length + 1) (R.l.length + 1) && scAll (R.push2 s.ivs [s.lv]) (S.wrote R.l.length s q1) then
                        needT [.pre g as2] (.calll g as2 s.ivs [s.lv]
                          (next ((R.push2 s.ivs [s.lv]).push2 s.ivs [s.lv]) (((S.wrote R.l.length s q1).wrote (R.l.length + 1) s q2).put o.dst (.one (.int .i64 (.var (R.i.length + 1)))))))
                      else .fail 61
                    | none => .fail 62))
                else .fail 63
              | none => .fail 64
            else .fail 65
          | none => match scOp C R (valOf S) (fun id => bif memN id (idsOf S o.op) then getH S.heap id else none) o.op with
            | some (g, s, as) =>
              bif as.sc R.i.length R.l.length && scAll R S then
                match resSV (sComps R.i.length R.l.length s.res) with
                | some v => needT (bif s.total then [] else [.pre g as]) (.calll g as s.ivs s.lvs (next (R.push2 s.ivs s.lvs) (S.put o.dst v)))
                | none => .fail 51
              else .fail 52
            | none => match idxOf C S o.op with
              | some (t, k, ix, n) => idxT t k ix S (fun R S => goS S true R) 0 n R
              | none => match pickOf S o.op with
                | some b => askT R b (go true) (go false)
                | none => go true R
    match guardOf ops S o with
    | .run => run R
    | .skip => next R (S.put o.dst .undef)
    | .ask b => askT R b run (fun R => next R (S.put o.dst .undef))
    | .bad => .fail 4

/-! ### A region that draws its order: no variables are bound within; the bounds stay those at its head -/
/-- A call of a region: the function, its results' kinds, whether it asks nothing, its arguments. -/
structure CallR where
  g : Nat
  ks : List Kd
  as : AS

def CallR.rep (g : Nat) (as : AS) (n m : Nat) (c : CallR) : CallR := { c with as := AS.rep g as n m c.as }

/-- Variables for what the calls of a region have returned, one call after the other. -/
def callsT (fin : Bds → List E → St → T) : (fuel : Nat) → List CallR → List E → Bds → St → T
  | 0, _, _, _, _ => .fail 20
  | _ + 1, [], ps, R, S => fin R ps S
  | f + 1, c :: r, ps, R, S =>
    bif c.as.sc R.i.length R.l.length && (scAll R S && ps.all (·.sc R.i.length R.l.length))
    then .call c.g c.as c.ks.length
      (callsT fin f (r.map (CallR.rep c.g c.as R.i.length c.ks.length)) (ps.map (E.rep c.g c.as R.i.length c.ks.length)) (R.push (c.ks.map Kd.iv)) (S.rep c.g c.as R.i.length c.ks.length))
    else .fail 21
/-- The first code that is not 0 ends it. -/
def panT (pty : TypeId) (k : Bds → T) : List E → Bds → St → T
  | [], R, _ => k R
  | e :: r, R, S => askT R (.eq e (.lit 0)) (fun R => panT pty k r R S) (fun R => .leaf (.pan pty e) R S)
/-- Each two calls that may panic: the second one waits for the first one. -/
def okPans (C : Cfg) (ops : Array Oper) : Bool := (List.range ops.size).all fun j => (List.range j).all fun i =>
  match ops[i]?, ops[j]? with
  | some x, some y => !(isPanOp C x.op && isPanOp C y.op) || chainB ops i 12 j
  | _, _ => true

def callOf (C : Cfg) (R : Bds) (S : St) (o : Op) : List CallR :=
  match callOp C R (valOf S) (fun id => bif memN id (idsOf S o) then getH S.heap id else none) o with
  | some (g, s, as) => [⟨g, resKds s, as⟩]
  | none => []

def runT (C : Cfg) (R : Bds) (ops : Array Oper) (fin : Bds → List Fp → List O → List CallR → St → T) :
    List Oper → (i new : Nat) → (Rp : Bds) → List Fp → List O → List CallR → St → T
  | [], _, _, Rp, fps, os, cs, S => fin Rp fps os cs S
  | o :: rest, i, new, Rp, fps, os, cs, S =>
    let next (Rp : Bds) (fp : Fp) (os : List O) (cs : List CallR) (S : St) : T := runT C R ops fin rest (i + 1) (new + newsOf C o.op) Rp (fp :: fps) os cs S
    let go (d : Bool) (Rp : Bds) : T := match opStep C R o.op d S new with
      | some r => bif (panEs r.os).isEmpty || isPanOp C o.op then next Rp (mkFp ops i o S r) (os ++ r.os) (cs ++ callOf C R S o.op) (r.put o.dst S) else .fail 12
      | none => .fail 11
    let run (Rp : Bds) : T := match pickOf S o.op with
      | some b => askT Rp b (go true) (go false)
      | none => go true Rp
    match guardOf ops S o with
    | .run => run Rp
    | .skip => next Rp (skipFp ops i o) os cs (S.put o.dst .undef)
    | .ask b => askT Rp b run (fun Rp => next Rp (skipFp ops i o) os cs (S.put o.dst .undef))
    | .bad => .fail 14

def countNew (C : Cfg) (l : List Oper) : Nat := match l with
  | [] => 0
  | o :: r => newsOf C o.op + countNew C r

def regionT (C : Cfg) (R : Bds) (ops : Array Oper) (draw : Bool) (S : St) (fin : Bds → St → T) : T :=
  let l := ops.toList
  let S1 : St := { S with heap := S.heap ++ List.replicate (countNew C l) none }
  bif draw then
    runT C R ops (fun Rp fps os cs S' =>
        bif okEdges ops && (okOrder ops fps.reverse && okPans C ops)
        then needT (os.filter O.ask) (callsT (fun R ps S => panT C.pty (fun R => bindT fin 1000 R (l.flatMap (bindOf S)) S) ps R S) 100 cs (panEs os) Rp S') else .fail 15)
      l 0 S.heap.length R [] [] [] S1
  else seqT C ops fin l S.heap.length R S1

/-! ## Merging -/
def mergeC (b : B) (x y : Cell) : Option Cell := match x, y with
  | .int k e, .int k' e' => bif decide (k = k') then some (.int k (bif e.eqb e' then e else .ite b e e')) else none
  | .bool c, .bool c' => some (.bool (bif c.eqb c' then c else mkOr (mkAnd b c) (mkAnd (mkNot b) c')))
  | .ptr i o, .ptr i' o' => bif Nat.beq i i' && Nat.beq o o' then some x else none
  | .nilp, .nilp => some .nilp
  | .nilf, .nilf => some .nilf
  | .nils, .nils => some .nils
  | .fn f, .fn f' => bif Nat.beq f f' then some x else none
  | .str l, .str l' => bif l.eqb l' then some x else none
  | .sl i s o l, .sl i' s' o' l' => bif Nat.beq i i' && (Nat.beq s s' && (o.eqb o' && l.eqb l')) then some x else none
  | _, _ => none

def mergeCs (b : B) : List Cell → List Cell → Option (List Cell)
  | [], [] => some []
  | x :: xs, y :: ys => match mergeC b x y, mergeCs b xs ys with
    | some c, some cs => some (c :: cs)
    | _, _ => none
  | _, _ => none

def mergeV (b : B) (x y : SV) : SV := match x, y with
  | .one c, .one d => match mergeC b c d with
    | some c => .one c
    | none => .any
  | .agg cs, .agg ds => match mergeCs b cs ds with
    | some cs => .agg cs
    | none => .any
  | .tup [], .tup [] => .tup []
  | _, _ => .any

def mergeT (b : B) : List SV → List SV → Option (List SV)
  | [], [] => some []
  | x :: xs, y :: ys => (mergeT b xs ys).map (mergeV b x y :: ·)
  | _, _ => none

def tlEqb : Option (List EK × L) → Option (List EK × L) → Bool
  | none, none => true
  | some p, some q => decide (p.1 = q.1) && p.2.eqb q.2
  | _, _ => false

def mergeH (b : B) : List (Option Reg) → List (Option Reg) → Option (List (Option Reg))
  | [], [] => some []
  | some r :: xs, some q :: ys => bif (bif r.own then q.own else !q.own) && (Nat.beq r.ty q.ty && tlEqb r.tl q.tl) then
      match mergeCs b r.cs q.cs, mergeH b xs ys with
      | some cs, some hs => some (some { r with cs := cs } :: hs)
      | _, _ => none
    else none
  | _, _ => none

def mergeS (b : B) (S S' : St) : Option St := match mergeT b S.tmps S'.tmps, mergeH b S.heap S'.heap with
  | some ts, some hs => some ⟨ts, hs⟩
  | _, _ => none

def Cell.eqb : Cell → Cell → Bool
  | .int _ e, .int _ e' => e.eqb e'
  | .bool b, .bool b' => b.eqb b'
  | _, _ => true
def cellsEqb : List Cell → List Cell → Bool
  | a :: r, b :: s => a.eqb b && cellsEqb r s
  | _, _ => true
def SV.eqb (a b : SV) : Bool := cellsEqb a.cells b.cells
/-- The places that two branches have left different. -/
def diffT : Nat → List SV → List SV → List Pl
  | n, a :: r, b :: s => bif a.eqb b then diffT (n + 1) r s else .t n :: diffT (n + 1) r s
  | _, _, _ => []
def diffH : Nat → List (Option Reg) → List (Option Reg) → List Pl
  | n, some a :: r, some b :: s => bif cellsEqb a.cs b.cs then diffH (n + 1) r s else .h n :: diffH (n + 1) r s
  | n, _ :: r, _ :: s => diffH (n + 1) r s
  | _, _, _ => []

/-- Two branches that both go on become one, where they can. -/
def mergeL (R : Bds) (b : B) (t e : T) : T := match t, e with
  | .leaf .normal _ S, .leaf .normal _ S' => match mergeS b S S' with
    | some M => bindT (.leaf .normal) 200 R (diffT 0 S.tmps S'.tmps ++ diffH 0 S.heap S'.heap) M
    | none => .ite b t e
  | t, e => .ite b t e

/-! ## Code -/
def T.seq : T → (Ex → Bds → St → T) → T
  | .fail w, _ => .fail w
  | .leaf x R S, f => f x R S
  | .ite b t e, f => .ite b (t.seq f) (e.seq f)
  | .need os t, f => .need os (t.seq f)
  | .bind e t, f => .bind e (t.seq f)
  | .call g as n t, f => .call g as n (t.seq f)
  | .calll g as rs lrs t, f => .calll g as rs lrs (t.seq f)
  | .again k n m rs es les, _ => .again k n m rs es les
  | .loop k es les rs lrs t, f => .loop k es les rs lrs (t.seq f)

/-- A loop that goes round with numbers: its own number; the temporaries and the blocks whose numbers are variables; the temporaries that are forgotten; the bounds of the variables. -/
structure Ann where
  k : Nat
  ts : List Nat
  hs : List Nat
  any : List Nat
  rs : List Iv
  /-- the lists that are written in place, or that grow -/
  ls : List Nat
  /-- those that grow -/
  gs : List Nat

structure Fn where
  C : Cfg
  anns : List (Nat × Ann)

def annOf : List (Nat × Ann) → Nat → Option Ann
  | [], _ => none
  | (g, s) :: r, f => bif Nat.beq g f then some s else annOf r f

/-- The first region of some code: the name of a loop. -/
def regionOf : Code → Option Nat
  | .region id _ _ => some id
  | .seq a b => match regionOf a with
    | some i => some i
    | none => regionOf b
  | .cond _ a b => match regionOf a with
    | some i => some i
    | none => regionOf b
  | .block _ a | .loop a | .scope a => regionOf a
  | _ => none

/-- The first label of some code. -/
def labelOf : Code → Option Nat
  | .label l => some l
  | .seq a b => match labelOf a with
    | some i => some i
    | none => labelOf b
  | .cond _ a b => match labelOf a with
    | some i => some i
    | none => labelOf b
  | .block _ a | .loop a => labelOf a
  | _ => none

def numOf : B → E
  | .lit true => .lit 1
  | .lit false => .lit 0
  | b => .ite b (.lit 1) (.lit 0)

/-- Variables from place n on, for all numbers of some cells. -/
def cutCs (n : Nat) : List Cell → Option (List E × List Cell)
  | [] => some ([], [])
  | .int k e :: r => (cutCs (n + 1) r).map fun p => (e :: p.1, .int k (.var n) :: p.2)
  | .bool b :: r => (cutCs (n + 1) r).map fun p => (numOf b :: p.1, .bool (.eq (.var n) (.lit 1)) :: p.2)
  | c :: r => bif c.sc 0 0 then (cutCs n r).map fun p => (p.1, c :: p.2) else none

def cutSV (n : Nat) : SV → Option (List E × SV)
  | .one c => match cutCs n [c] with
    | some (es, [c']) => some (es, .one c')
    | _ => none
  | .agg cs => (cutCs n cs).map fun p => (p.1, .agg p.2)
  | _ => none

def cutTs (n0 m : Nat) (A : Ann) : (n t : Nat) → List SV → Option (List E × List SV)
  | _, _, [] => some ([], [])
  | n, t, v :: r =>
    bif memN t A.any then (cutTs n0 m A n (t + 1) r).map fun p => (p.1, .any :: p.2)
    else bif memN t A.ts then (match cutSV n v with
      | some (es, v') => (cutTs n0 m A (n + es.length) (t + 1) r).map fun p => (es ++ p.1, v' :: p.2)
      | none => none)
    else (cutTs n0 m A n (t + 1) r).map fun p => (p.1, (bif v.sc n0 m then v else .any) :: p.2)

def cutHs (n0 m : Nat) (A : Ann) : (n q id : Nat) → List (Option Reg) → Option (List E × List (L × List EK) × List (Option Reg))
  | _, _, _, [] => some ([], [], [])
  | n, q, id, none :: r => (cutHs n0 m A n q (id + 1) r).map fun p => (p.1, p.2.1, none :: p.2.2)
  | n, q, id, some g :: r =>
    bif memN id A.ls then (match bif g.own && g.cs.isEmpty then g.tl else none with
      | some (ks, l) => (cutHs n0 m A n (q + 1) (id + 1) r).map fun p => (p.1, (l, ks) :: p.2.1, some { g with tl := some (ks, .var q) } :: p.2.2)
      | none => none)
    else bif memN id A.hs then (match bif g.tl.isNone then cutCs n g.cs else none with
      | some (es, cs) => (cutHs n0 m A (n + es.length) q (id + 1) r).map fun p => (es ++ p.1, p.2.1, some { g with cs := cs } :: p.2.2)
      | none => none)
    else (cutHs n0 m A n q (id + 1) r).map fun p => (p.1, p.2.1, (bif regSc n0 m (some g) then some g else none) :: p.2.2)

/-- A slice of a list that grows, at the head: the whole list. -/
def growV (A : Ann) (hp hp1 : List (Option Reg)) (t : Nat) (o c : SV) : SV := match o with
  | .one (.sl id s off len) => bif memN id A.gs then (bif memN t A.any then (match getH hp id, getH hp1 id with
    | some r, some r1 => (match r.tl, r1.tl with
      | some (_, l), some (_, l1) => bif off.eqb (.lit 0) && len.eqb (nelE l s) then .one (.sl id s (.lit 0) (nelE l1 s)) else .any
      | _, _ => .any)
    | _, _ => .any) else .any) else c
  | _ => c
def growTs (A : Ann) (hp hp1 : List (Option Reg)) : Nat → List SV → List SV → List SV
  | t, o :: os, c :: cs => growV A hp hp1 t o c :: growTs A hp hp1 (t + 1) os cs
  | _, _, cs => cs
/-- The state with variables for what a loop changes, and what they stand for. -/
def cutS (n0 m : Nat) (A : Ann) (S : St) : Option (List E × List (L × List EK) × St) := match cutTs n0 m A n0 0 S.tmps with
  | some (es, ts) => (cutHs n0 m A (n0 + es.length) m 0 S.heap).map fun p => (es ++ p.1, p.2.1, ⟨growTs A S.heap p.2.2 0 S.tmps ts, p.2.2⟩)
  | none => none
/-- A list that is no longer than one can be. -/
def lenOk (R : Bds) (l : L) : Bool := match l.iv R with
  | some p => ile p.2 maxLen
  | none => false
def lenOs (R : Bds) (l : L) : List O := bif lenOk R l then [] else must (mkLe R (.len l) (.lit maxLen))
def lrsOf (kss : List (List EK)) : List (Iv × Int) := kss.map fun ks => (kindsIv ks, maxLen)

def Cell.same : Cell → Cell → Bool
  | .int k e, .int k' e' => decide (k = k') && e.eqb e'
  | .bool b, .bool b' => b.eqb b'
  | .ptr i o, .ptr i' o' => Nat.beq i i' && Nat.beq o o'
  | .nilp, .nilp | .nilf, .nilf | .nils, .nils => true
  | .fn f, .fn f' => Nat.beq f f'
  | .str l, .str l' => l.eqb l'
  | .slc i o n c, .slc i' o' n' c' => Nat.beq i i' && (Nat.beq o o' && (Nat.beq n n' && Nat.beq c c'))
  | .sl i s o n, .sl i' s' o' n' => Nat.beq i i' && (Nat.beq s s' && (o.eqb o' && n.eqb n'))
  | .lp i s e f, .lp i' s' e' f' => Nat.beq i i' && (Nat.beq s s' && (e.eqb e' && Nat.beq f f'))
  | _, _ => false
def sameCs : List Cell → List Cell → Bool
  | [], [] => true
  | a :: r, b :: s => a.same b && sameCs r s
  | _, _ => false
/-- The second one says no more than the first one. -/
def SV.le : SV → SV → Bool
  | _, .any => true
  | .one c, .one c' => c.same c'
  | .agg cs, .agg cs' => sameCs cs cs'
  | .tup [], .tup [] => true
  | _, _ => false
def leTs : List SV → List SV → Bool
  | [], [] => true
  | a :: r, b :: s => a.le b && leTs r s
  | _, _ => false
def leHs : List (Option Reg) → List (Option Reg) → Bool
  | _, [] => true
  | some g :: r, some q :: s => (bif g.own then q.own else !q.own) && (Nat.beq g.ty q.ty && (tlEqb g.tl q.tl && (sameCs g.cs q.cs && leHs r s)))
  | _ :: r, none :: s => leHs r s
  | _, _ => false

/-! ### Two blocks that change their numbers -/
def swapId (a b x : Nat) : Nat := bif Nat.beq x a then b else bif Nat.beq x b then a else x
def Cell.swap (a b : Nat) : Cell → Cell
  | .ptr i o => .ptr (swapId a b i) o
  | .ptrx i o n s e => .ptrx (swapId a b i) o n s e
  | .slc i o n c => .slc (swapId a b i) o n c
  | .sl i s o n => .sl (swapId a b i) s o n
  | .lp i s e f => .lp (swapId a b i) s e f
  | .clo g ps => .clo g (ps.map fun p => (swapId a b p.1, p.2))
  | c => c
def SV.swap (a b : Nat) : SV → SV
  | .one c => .one (c.swap a b)
  | .agg cs => .agg (cs.map (Cell.swap a b))
  | .tup vs => .tup (vs.map fun p => (p.1, p.2.map (Cell.swap a b)))
  | .any => .any
def Reg.swap (a b : Nat) (r : Reg) : Reg := { r with cs := r.cs.map (Cell.swap a b) }
def swapH (a b : Nat) (hp : List (Option Reg)) : List (Option Reg) := (setH (setH hp a (getH hp b)) b (getH hp a)).map fun o => o.map (Reg.swap a b)
def St.swap (a b : Nat) (S : St) : St := ⟨S.tmps.map (SV.swap a b), swapH a b S.heap⟩
/-- Which block has become the one that a list at the head is. -/
def findSwap (id : Nat) : List SV → List SV → Option Nat
  | .one (.sl i _ _ _) :: r, .one (.sl j _ _ _) :: s => bif Nat.beq i id && !Nat.beq j id then some j else findSwap id r s
  | _ :: r, _ :: s => findSwap id r s
  | _, _ => none
def rehome : List Nat → St → St → St
  | [], _, S => S
  | id :: r, S1, S => match findSwap id S1.tmps S.tmps with
    | some b => bif (Nat.blt id S.heap.length && Nat.blt b S.heap.length) && (Nat.blt 0 id && Nat.blt 0 b) then rehome r S1 (S.swap id b) else rehome r S1 S
    | none => rehome r S1 S
/-- All lists that a loop changes are there. -/
def readyA (A : Ann) (S : St) : Bool := A.ls.all fun id => match getH S.heap id with
  | some r => r.own && r.tl.isSome
  | none => false

/-- Where a round ends: the numbers for the next one; elsewhere it goes on. -/
def againT (A : Ann) (n0 m : Nat) (kss : List (List EK)) (S1 : St) (ag : Ex → Bool) (x : Ex) (R' : Bds) (S' : St) : T := bif ag x then
    (match cutS n0 m A ⟨(rehome A.gs S1 S').tmps, (rehome A.gs S1 S').heap.take S1.heap.length⟩ with
      | some (es, les, S2) => bif (leTs S2.tmps S1.tmps && leHs S2.heap S1.heap) && decide (les.map (·.2) = kss) then needT (les.flatMap fun p => lenOs R' p.1) (.again A.k n0 m A.rs es (les.map (·.1))) else .fail 31
      | none => .fail 32)
  else .leaf x R' S'

def loopT (A : Ann) (R : Bds) (S : St) (body : Bds → St → T) (ag : Ex → Bool) : T := match cutS R.i.length R.l.length A S with
  | some (es, les, S1) => bif scAll R S then needT (les.flatMap fun p => lenOs R p.1) <|
      .loop A.k es (les.map (·.1)) A.rs (lrsOf (les.map (·.2))) ((body (R.push2 A.rs (lrsOf (les.map (·.2)))) S1).seq (againT A R.i.length R.l.length (les.map (·.2)) S1 ag)) else .fail 33
  | none => .fail 34

def noGotoT (x : Ex) (R : Bds) (S : St) : T := match x with
  | .goto _ => .fail 43
  | x => .leaf x R S

def Ex.isNormal : Ex → Bool
  | .normal => true
  | _ => false
def Ex.isGoto (l : Nat) : Ex → Bool
  | .goto j => Nat.beq j l
  | _ => false

def exec (F : Fn) : (fuel : Nat) → Code → Bds → St → T
  | 0, _, _, _ => .fail 1000
  | f + 1, c, R, S => match c with
    | .skip => .leaf .normal R S
    | .label _ => .leaf .normal R S
    | .region _ ops draw => regionT F.C R ops draw S (.leaf .normal)
    | .seq a b => (exec F f a R S).seq fun x R S => match x with
      | .normal => exec F f b R S
      | x => .leaf x R S
    | .cond c a b => match valOf S c with
      | some (.one (.bool t)) => match known R.p t with
        | some true => exec F f a R S
        | some false => exec F f b R S
        | none => mergeL R t (exec F f a (R.assume t true) S) (exec F f b (R.assume t false) S)
      | _ => .fail 1001
    | .block id a => (exec F f a R S).seq fun x R S => match x with
      | .exit j => bif Nat.beq j id then .leaf .normal R S else .leaf (.exit j) R S
      | x => .leaf x R S
    | .loop a => match ((regionOf a).bind (annOf F.anns)).filter (fun A => readyA A S) with
      | some A => loopT A R S (exec F f a) Ex.isNormal
      | none => (exec F f a R S).seq fun x R S => match x with
        | .normal => exec F f (.loop a) R S
        | x => .leaf x R S
    | .scope a => (exec F f a R S).seq fun x R S => match x with
      | .goto l => bif decide (labelOf a = some l) then (match findLabel a l, annOf F.anns (1000000 + l) with
        | some rest, some A => (loopT A R S (exec F f rest) (Ex.isGoto l)).seq noGotoT
        | _, _ => .fail 41) else .fail 42
      | x => .leaf x R S
    | .exit id => .leaf (.exit id) R S
    | .goto l => .leaf (.goto l) R S
    | .ret => .leaf .ret R S
    | _ => .fail 1002

/-! ## A whole function -/
/-- What is asked in the end: no states in it any more. -/
inductive VC where
  | fail (why : Nat)
  | fin (as : AS)
  | ite (b : B) (t e : VC)
  | need (os : List O) (t : VC)
  | bind (e : E) (t : VC)
  | call (g : Nat) (as : AS) (n : Nat) (t : VC)
  | calll (g : Nat) (as : AS) (rs : List Iv) (lrs : List (Iv × Int)) (t : VC)
  | again (k n0 m0 : Nat) (rs : List Iv) (es : List E) (les : List L)
  | loop (k : Nat) (es : List E) (les : List L) (rs : List Iv) (lrs : List (Iv × Int)) (t : VC)

def T.vc (fin : Ex → Bds → St → VC) : T → VC
  | .fail w => .fail w
  | .leaf x R S => fin x R S
  | .ite b t e => .ite b (t.vc fin) (e.vc fin)
  | .need os t => .need os (t.vc fin)
  | .bind e t => .bind e (t.vc fin)
  | .call g as n t => .call g as n (t.vc fin)
  | .calll g as rs lrs t => .calll g as rs lrs (t.vc fin)
  | .again k n m rs es les => .again k n m rs es les
  | .loop k es les rs lrs t => .loop k es les rs lrs (t.vc fin)

def resVar (P : Program) (S : St) : ResultVar → Option SV
  | .tmp t => some (getT S.tmps t)
  | .cell a t => match getT S.tmps a with
    | .one (.ptr id off) => match getH S.heap id with
      | some r => partT P t r.cs off
      | none => none
    | _ => none

def resVars (P : Program) (S : St) : List ResultVar → Option (List SV)
  | [] => some []
  | r :: rs => match resVar P S r, resVars P S rs with
    | some x, some xs => some (x :: xs)
    | _, _ => none

def resAS (R : Bds) : List (Bool × List Kd) → List SV → Option AS
  | [], [] => some .nil
  | (true, ks) :: r, .agg cs :: vs => match resAS R r vs with
    | some as => cellsAS R ks cs as
    | none => none
  | (false, ks) :: r, .one c :: vs => match resAS R r vs with
    | some as => cellsAS R ks [c] as
    | none => none
  | _, _ => none

def finVC (P : Program) (fn : Func) (s : Sig) : Ex → Bds → St → VC
  | .exit _, _, _ => .fail 2000
  | .goto _, _, _ => .fail 2000
  | .pan _ _, _, _ => .fail 2000
  | _, R, S => match resVars P S fn.results.toList with
    | some vs => match resAS R s.res vs with
      | some as => .fin as
      | none => .fail 2001
    | none => .fail 2002

/-- What a function that may panic ends with: the code, and the numbers. -/
def zerosAS : Nat → AS
  | 0 => .nil
  | n + 1 => .e (.lit 0) (zerosAS n)
def finPf (P : Program) (pty : TypeId) (fn : Func) (s : Sig) : Ex → Bds → St → VC
  | .exit _, _, _ => .fail 2500
  | .goto _, _, _ => .fail 2500
  | .pan t e, R, _ => bif Nat.beq t pty then (match e.iv R with
    | some iv => bif iv.sub (kiv .i64) then .need (must (mkNot (mkEq R e (.lit 0)))) (.fin (.e e (zerosAS (s.res.tail.flatMap (·.2)).length))) else .fail 2501
    | none => .fail 2502) else .fail 2503
  | _, R, S => match resVars P S fn.results.toList with
    | some vs => match resAS R s.res.tail vs with
      | some as => .fin (.e (.lit 0) as)
      | none => .fail 2504
    | none => .fail 2505
/-- Slices that are whole blocks of numbers: variables from place m on. -/
def slVars (id m : Nat) : List (List EK) → List Cell
  | [] => []
  | ks :: r => .sl id ks.length (.lit 0) (nelE (.var m) ks.length) :: slVars (id + 1) (m + 1) r
def lRegs (m : Nat) : List (List EK) → List (Option Reg)
  | [] => []
  | ks :: r => some ⟨[], false, 0, some (ks, .var m)⟩ :: lRegs (m + 1) r
/-- The parameters as variables: from place n on; the lists from place m on. -/
def parSVs (n id m : Nat) : List PSh → List SV
  | [] => []
  | .val true ks :: r => .agg (varCells n ks) :: parSVs (n + ks.length) id m r
  | .val false ks :: r => (match varCells n ks with
    | [c] => .one c
    | _ => .any) :: parSVs (n + ks.length) id m r
  | .ptr ks :: r => .one (.ptr id 0) :: parSVs (n + ks.length) (id + 1) m r
  | .slc ks :: r => .one (.slc id 0 ks.length ks.length) :: parSVs (n + ks.length) (id + 1) m r
  | .fnc g :: r => .one (.fn g) :: parSVs n id m r
  | .str :: r => .one (.str (.var m)) :: parSVs n id (m + 1) r
  | .lst ks :: r => .one (.sl id ks.length (.lit 0) (nelE (.var m) ks.length)) :: parSVs n (id + 1) (m + 1) r
  | .lsts kss :: r => .agg (slVars id m kss) :: parSVs n (id + kss.length) (m + kss.length) r
  | .mix ks kss :: r => .agg (varCells n ks ++ slVars id m kss) :: parSVs (n + ks.length) (id + kss.length) (m + kss.length) r
  | .plsts kss :: r => .one (.ptr id 0) :: parSVs n (id + 1 + kss.length) (m + kss.length) r

def parRegs (n id m : Nat) : List PSh → List (Option Reg)
  | [] => []
  | .val _ ks :: r => parRegs (n + ks.length) id m r
  | .ptr ks :: r => some ⟨varCells n ks, false, 0, none⟩ :: parRegs (n + ks.length) (id + 1) m r
  | .slc ks :: r => some ⟨varCells n ks, false, 0, none⟩ :: parRegs (n + ks.length) (id + 1) m r
  | .fnc _ :: r => parRegs n id m r
  | .str :: r => parRegs n id (m + 1) r
  | .lst ks :: r => some ⟨[], false, 0, some (ks, .var m)⟩ :: parRegs n (id + 1) (m + 1) r
  | .lsts kss :: r => lRegs m kss ++ parRegs n (id + kss.length) (m + kss.length) r
  | .mix ks kss :: r => lRegs m kss ++ parRegs (n + ks.length) (id + kss.length) (m + kss.length) r
  | .plsts kss :: r => some ⟨slVars (id + 1) m kss, false, 0, none⟩ :: (lRegs m kss ++ parRegs n (id + 1 + kss.length) (m + kss.length) r)

def parLvs (ps : List PSh) : List (Iv × Int) := ps.flatMap fun p => p.lss.map fun ks => (kindsIv ks, maxLen * (ks.length : Int))

def parIvs (ps : List PSh) : List Iv := ps.flatMap fun p => p.ks.map Kd.iv

/-! ### Functions that return copies -/
/-- Slices that are whole new blocks: what their lengths must be, and the lists. -/
def cpFin (R : Bds) (S : St) : List Nat → List (List EK) → List TypeId → List Cell → Option (List O × AS)
  | _, [], [], [] => some ([], .nil)
  | seen, ks :: kss, ty :: tys, .sl id s off len :: cs => match getH S.heap id with
    | some r => match r.tl with
      | some (ks', l) => bif r.own && (Nat.beq r.ty ty && (decide (ks' = ks) && (Nat.beq s ks.length && (off.eqb (.lit 0) && !memN id seen)))) then
          (cpFin R S (id :: seen) kss tys cs).map fun p => (must (mkEq R len (nelE l s)) ++ p.1, .l l p.2) else none
      | none => none
    | none => none
  | _, _, _, _ => none
def cpCells1 (p : PSh) (v : SV) : Option (List Cell) := match p, v with
  | .lst _, .one c => some [c]
  | .lsts _, .agg cs => some cs
  | _, _ => none
def finCp (P : Program) (fn : Func) (p : PSh) (tys : List TypeId) : Ex → Bds → St → VC
  | .exit _, _, _ => .fail 2100
  | .goto _, _, _ => .fail 2100
  | .pan _ _, _, _ => .fail 2100
  | _, R, S => match resVars P S fn.results.toList with
    | some [v] => match cpCells1 p v with
      | some cs => match cpFin R S [] p.lss tys cs with
        | some (os, as) => .need os (.fin as)
        | none => .fail 2101
      | none => .fail 2103
    | _ => .fail 2102
/-- What is returned by a function that returns lists, too: the numbers, the slices. -/
def lrAS (R : Bds) : List LR → List SV → Option (AS × List Cell)
  | [], [] => some (.nil, [])
  | .n true ks :: r, .agg cs :: vs => match lrAS R r vs with
    | some (as, l) => (cellsAS R ks cs as).map fun as => (as, l)
    | none => none
  | .n false ks :: r, .one c :: vs => match lrAS R r vs with
    | some (as, l) => (cellsAS R ks [c] as).map fun as => (as, l)
    | none => none
  | .l true kss _ :: r, .agg cs :: vs => match lrAS R r vs with
    | some (as, l) => bif Nat.beq cs.length kss.length then some (as, cs ++ l) else none
    | none => none
  | .l false kss _ :: r, .one c :: vs => match lrAS R r vs with
    | some (as, l) => bif Nat.beq 1 kss.length then some (as, c :: l) else none
    | none => none
  | .m ks kss _ :: r, .agg cs :: vs => match lrAS R r vs with
    | some (as, l) => bif Nat.beq cs.length (ks.length + kss.length) then (cellsAS R ks (cs.take ks.length) as).map fun as => (as, cs.drop ks.length ++ l) else none
    | none => none
  | _, _ => none
def AS.cat : AS → AS → AS
  | .nil, b => b
  | .e x a, b => .e x (a.cat b)
  | .l x a, b => .l x (a.cat b)
def nilLs : Nat → AS
  | 0 => .nil
  | n + 1 => .l (.lit []) (nilLs n)
def Cell.isNils : Cell → Bool
  | .nils => true
  | _ => false
def finLf (P : Program) (fn : Func) (s : LSig) : Ex → Bds → St → VC
  | .exit _, _, _ => .fail 2200
  | .goto _, _, _ => .fail 2200
  | .pan _ _, _, _ => .fail 2200
  | _, R, S => match resVars P S fn.results.toList with
    | some vs => match lrAS R s.res vs with
      | some (as, cs) => bif cs.all Cell.isNils then bif s.sure then .fail 2204 else .fin (.e (.lit 1) (as.cat (nilLs (lsKss s.res).length)))
        else match cpFin R S [] (lsKss s.res) (lsTys s.res) cs with
          | some (os, al) => .need (os ++ cpOs R al.ls) (.fin (.e (.lit 0) (as.cat al)))
          | none => .fail 2201
      | none => .fail 2202
    | none => .fail 2203
def vcLf (F : Fn) (ivs : List Iv) (lvs : List (Iv × Int)) (fuel : Nat) (fn : Func) (s : LSig) : VC := match fn.body with
  | some c =>
    let ts := parSVs 0 0 0 s.params
    (exec F fuel c ⟨ivs, lvs, F.C.sigs.map fun p => (p.1, resKds p.2), []⟩
      ⟨ts ++ List.replicate (fn.ntmps - ts.length) .undef, parRegs 0 0 0 s.params⟩).vc (finLf F.C.P fn s)
  | none => .fail 3000

/-- What is returned by a function that returns texts, too: what is asked, the numbers, the texts. -/
def sAS (R : Bds) : List SR → List SV → Option (List O × AS × AS)
  | [], [] => some ([], .nil, .nil)
  | .n true ks :: r, .agg cs :: vs => match sAS R r vs with
    | some (os, as, ls) => (cellsAS R ks cs as).map fun as => (os, as, ls)
    | none => none
  | .n false ks :: r, .one c :: vs => match sAS R r vs with
    | some (os, as, ls) => (cellsAS R ks [c] as).map fun as => (os, as, ls)
    | none => none
  | .s :: r, .one (.str l) :: vs => match sAS R r vs, l.iv R with
    | some (os, as, ls), some p => bif p.1.sub ⟨0, 255⟩ then some (lenOs R l ++ os, as, .l l ls) else none
    | _, _ => none
  | _, _ => none
def finSf (P : Program) (fn : Func) (s : SSig) : Ex → Bds → St → VC
  | .exit _, _, _ => .fail 2400
  | .goto _, _, _ => .fail 2400
  | .pan _ _, _, _ => .fail 2400
  | _, R, S => match resVars P S fn.results.toList with
    | some vs => match sAS R s.res vs with
      | some (os, as, ls) => .need os (.fin (as.cat ls))
      | none => .fail 2401
    | none => .fail 2402
def vcSf (F : Fn) (ivs : List Iv) (lvs : List (Iv × Int)) (fuel : Nat) (fn : Func) (s : SSig) : VC := match fn.body with
  | some c =>
    let ts := parSVs 0 0 0 s.params
    (exec F fuel c ⟨ivs, lvs, F.C.sigs.map fun p => (p.1, resKds p.2), []⟩
      ⟨ts ++ List.replicate (fn.ntmps - ts.length) .undef, parRegs 0 0 0 s.params⟩).vc (finSf F.C.P fn s)
  | none => .fail 3000

def finWf (P : Program) (fn : Func) (s : WSig) (own : Bool) : Ex → Bds → St → VC
  | .exit _, _, _ => .fail 2300
  | .goto _, _, _ => .fail 2300
  | .pan _ _, _, _ => .fail 2300
  | _, R, S => match resVars P S fn.results.toList with
    | some vs => match resAS R s.res vs with
      | some as => bif own then (match getH S.heap 0 with
          | some r => match r.tl with
            | some (ks, l) => bif r.own && (Nat.beq r.ty s.ty && decide (ks = s.ks)) then .need (must (mkEq R (.len l) (.len (.var 0)))) (.fin (as.cat (.l l .nil))) else .fail 2301
            | none => .fail 2302
          | none => .fail 2303)
        else .fin (as.cat (.l (.lit []) .nil))
      | none => .fail 2304
    | none => .fail 2305
/-- Called with a slice that is written, or with a nil slice. -/
def wfSVs (s : WSig) (own : Bool) : List SV := s.sv (bif own then .sl 0 s.ks.length (.lit 0) (nelE (.var 0) s.ks.length) else .nils) :: parSVs 0 1 1 s.params
def wfRegs (s : WSig) (own : Bool) : List (Option Reg) := bif own then [some ⟨[], true, s.ty, some (s.ks, .var 0)⟩] else []
def vcWf (F : Fn) (ivs : List Iv) (fuel : Nat) (fn : Func) (s : WSig) (own : Bool) : VC := match fn.body with
  | some c =>
    (exec F fuel c ⟨ivs, bif own then [s.lv] else [], F.C.sigs.map fun p => (p.1, resKds p.2), []⟩
      ⟨wfSVs s own ++ List.replicate (fn.ntmps - (wfSVs s own).length) .undef, wfRegs s own⟩).vc (finWf F.C.P fn s own)
  | none => .fail 3000

def vcCp (F : Fn) (fuel : Nat) (fn : Func) (p : PSh) (tys : List TypeId) : VC := match fn.body with
  | some c =>
    let ts := parSVs 0 0 0 [p]
    (exec F fuel c ⟨[], cpLvs p, F.C.sigs.map fun p => (p.1, resKds p.2), []⟩
      ⟨ts ++ List.replicate (fn.ntmps - ts.length) .undef, parRegs 0 0 0 [p]⟩).vc (finCp F.C.P fn p tys)
  | none => .fail 3000

def vcOfI (F : Fn) (ivs : List Iv) (lvs : List (Iv × Int)) (fuel : Nat) (fn : Func) (s : Sig) : VC := match fn.body with
  | some c =>
    let ts := parSVs 0 0 0 s.params
    (exec F fuel c ⟨ivs, lvs, F.C.sigs.map fun p => (p.1, resKds p.2), []⟩
      ⟨ts ++ List.replicate (fn.ntmps - ts.length) .undef, parRegs 0 0 0 s.params⟩).vc (finVC F.C.P fn s)
  | none => .fail 3000
def vcPf (F : Fn) (pty : TypeId) (ivs : List Iv) (lvs : List (Iv × Int)) (fuel : Nat) (fn : Func) (s : Sig) : VC := match fn.body with
  | some c =>
    let ts := parSVs 0 0 0 s.params
    bif pfOk s then (exec F fuel c ⟨ivs, lvs, F.C.sigs.map fun p => (p.1, resKds p.2), []⟩
      ⟨ts ++ List.replicate (fn.ntmps - ts.length) .undef, parRegs 0 0 0 s.params⟩).vc (finPf F.C.P pty fn s) else .fail 2506
  | none => .fail 3000
def vcOf (F : Fn) (fuel : Nat) (fn : Func) (s : Sig) : VC := vcOfI F (parIvs s.params) (parLvs s.params) fuel fn s
end Go.Proofs.YtelfpnkhdaaeoaaDoor.Sx
