/- One operation on a state: what it asks, what it reads, what it changes; and that the model does so. -/
import Derived.Test.YtobcbhppmgnioaaGreatDoorSAi1
import Derived.Great.BuildSlice
import Derived.Laws.AppendOwn
namespace Go.Proofs.YtobcbhppmgnioaaGreatDoor
set_option linter.unusedSimpArgs false
set_option linter.unusedVariables false
open Go.RowKit Nx
section
abbrev Ef := Prop × List Nat × List (Nat × AV)
abbrev Orac := FuncId → Nat → St → List AV → Option Ef
def evl (st : St) : List Operand → Option (List AV)
 | [] => some []
 | x :: xs => match evs st x, evl st xs with
  | some v, some vs => some (v :: vs)
  | _, _ => none
def RA (ρ : Env) (D : Nat → Bool) (w : World) : List AV → List Value → Prop
 | [], vs => vs = []
 | p :: ps, vs => ∃ u us, vs = u :: us ∧ p.R ρ D w u ∧ RA ρ D w ps us
def intV (op : BinOp) (k : IntKind) (a b : Int) : Option Value := match op with
 | .eql => some (.bool (a == b))
 | .neq => some (.bool (a != b))
 | .lss => some (.bool (decide (a < b)))
 | .leq => some (.bool (decide (a ≤ b)))
 | .gtr => some (.bool (decide (a > b)))
 | .geq => some (.bool (decide (a ≥ b)))
 | .add => some (.int k (k.wrap (a + b)))
 | .sub => some (.int k (k.wrap (a - b)))
 | .mul => some (.int k (k.wrap (a * b)))
 | .and => some (.int k (bits .and k a b))
 | .or => some (.int k (bits .or k a b))
 | .rem => if b = 0 then none else some (.int k (a.tmod b))
 | .quo => if b = 0 then none else some (.int k (k.wrap (a.tdiv b)))
 | _ => none
def shV (op : BinOp) (k : IntKind) (a b : Int) : Option Value := match op with
 | .shl => if b < 0 then none else some (.int k (k.wrap (a * 2 ^ (min b.toNat k.bits))))
 | .shr => if b < 0 then none else some (.int k (a.fdiv (2 ^ (min b.toNat k.bits))))
 | _ => none
def binV (isB : Bool) (op : BinOp) (x y : Value) : Option Value := match x, y with
 | .int k a, .int k' b => match shV op k a b with
  | some v => some v
  | none => if k = k' then intV op k a b else none
 | .bool a, .bool b => if isB = true then (match op with
  | .eql => some (.bool (a == b))
  | .neq => some (.bool (!(a == b)))
  | _ => none) else none
 | _, _ => none
def unV (op : UnOp) (x : Value) : Option Value := match op, x with
 | .not, .bool b => some (.bool (!b))
 | .neg, .int k n => some (.int k (k.wrap (0 - n)))
 | _, _ => none
def capsOf : List AV → Option (List Nat)
 | [] => some []
 | .v false [.own b 0] :: r => (match capsOf r with
  | some bs => some (b :: bs)
  | none => none)
 | _ => none
def fillA (flds : List (Nat × Nat × Bool)) (ls : List Lf) : List (Nat × AV) → Option (List Lf)
 | [] => some ls
 | (k, .v g us) :: r => (match flds[k]? with
  | some p => if us.length = p.2.1 ∧ p.1 + p.2.1 ≤ ls.length ∧ (g = true ∨ us.all okLf = true) then fillA flds (ls.take p.1 ++ us ++ ls.drop (p.1 + p.2.1)) r else none
  | none => none)
 | _ => none
def evp (st : St) : List (Nat × Operand) → Option (List (Nat × AV))
 | [] => some []
 | (k, x) :: xs => match evs st x, evp st xs with
  | some v, some vs => some ((k, v) :: vs)
  | _, _ => none
def boolT (ty : TypeId → Option TI) (t : TypeId) : Bool := match ty t with
 | some i => (match i.zv with
  | [.bool _] => !i.agg
  | _ => false)
 | none => false
def evd (st : St) : Nat → List (Nat × Operand) → Option (List AV)
 | _, [] => some []
 | k, (j, x) :: xs => if j = k then (match evs st x, evd st (k + 1) xs with
  | some v, some vs => some (v :: vs)
  | _, _ => none) else none
def wordsOf : List AV → Option (List Int)
 | [] => some []
 | .v false [.lit (.int .u64 z)] :: r => (match wordsOf r with
  | some zs => some (z :: zs)
  | none => none)
 | _ => none
def rowsOf (n : Nat) : List AV → Option (List Lf)
 | [] => some []
 | .v _ ls :: r => if ls.length = n ∧ ls.all okLf = true then (match rowsOf n r with
  | some ms => some (ls ++ ms)
  | none => none) else none
 | _ => none
def inW : List Int → Prop
 | [] => True
 | z :: zs => (0 ≤ z ∧ z < 18446744073709551616) ∧ inW zs
section
variable (ty : TypeId → Option TI) (O : Orac)
def stepBS (t : TypeId) (len : Nat) (ps : List (Nat × Operand)) (d : Nat) (st : St) : Option Ef := match ty t, evd st 0 ps with
 | some i, some vs => if len = ps.length ∧ 0 < len ∧ len ≤ 1000 then (match i.el with
  | some (_, true) => (match wordsOf vs with
   | some zs => some (inW zs, ps.flatMap fun p => okeys p.2, [(2 * d, .s (.ws (zs.map Int.toNat)))])
   | none => none)
  | some (e, false) => (match ty e, look st (2 * d + 1) with
   | some j, none => if 0 < j.size ∧ j.size ≤ 100 then (match rowsOf j.size vs with
    | some ls => some (True, (ps.flatMap fun p => okeys p.2) ++ [2 * d + 1], [(2 * d, .s (.osl d len)), (2 * d + 1, .v true ls)])
    | none => none) else none
   | _, _ => none)
  | none => none) else none
 | _, _ => none
def stepB0 (t : TypeId) (ps : List (Nat × Operand)) (d : Nat) (st : St) : Option Ef := match ty t, ps with
 | some i, [] => (match i.el, look st (2 * d + 1) with
  | some (e, _), none => (match ty e with
   | some _ => some (True, [2 * d + 1], [(2 * d, .s (.osl d 0)), (2 * d + 1, .v true [])])
   | none => none)
  | _, _ => none)
 | _, _ => none
def stepMk (t : TypeId) (x y : Operand) (d : Nat) (st : St) : Option Ef := match ty t, evs st x, evs st y with
 | some i, some (.v false [.lit (.int .i64 n)]), some (.v false [.lit (.int .i64 c)]) => (match i.el, look st (2 * d + 1) with
  | some (e, false), none => (match ty e with
   | some j => if n = c ∧ 0 ≤ n ∧ n ≤ 1000 ∧ j.zero.all okLf = true then some (True, okeys x ++ okeys y ++ [2 * d + 1], [(2 * d, .s (.osl d n.toNat)), (2 * d + 1, .v true (List.replicate n.toNat j.zero).flatten)]) else
    if (n = 0 ∧ 0 < c ∧ c ≤ 1000 ∧ j.zero.all okLf = true) ∧ 0 < j.size then some (True, okeys x ++ okeys y ++ [2 * d + 1], [(2 * d, .s (.ol d 0)), (2 * d + 1, .pre e j.size [])]) else none
   | none => none)
  | _, _ => none)
 | _, _, _ => none
def optI (st : St) (o : Option Operand) (z : Nat) : Option Nat := match o with
 | none => some z
 | some x => (match evs st x with
  | some (.v false [.lit (.int .i64 k)]) => if 0 ≤ k then some k.toNat else none
  | _ => none)
def okO : Option Operand → List Nat
 | none => []
 | some x => okeys x
def stepSl (t : TypeId) (x : Operand) (lo hi : Option Operand) (d : Nat) (st : St) : Option Ef := match ty t, evs st x with
 | some i, some (.v false [.sl f sz n ls]) => (match i.el, optI st lo 0, optI st hi n with
  | some (e, _), some l, some h => (match ty e with
   | some j => if j.size = sz ∧ l ≤ h ∧ h ≤ n then some (True, okeys x ++ okO lo ++ okO hi, [(2 * d, .s (.sl f sz (h - l) ((ls.drop (l * sz)).take ((h - l) * sz))))]) else none
   | none => none)
  | _, _, _ => none)
 | some i, some (.v false [.ol b k]) => (match i.el, optI st lo 0, optI st hi k, look st (2 * b + 1) with
  | some (e, _), some l, some h, some (.pre _ sz ls) => (match ty e with
   | some j => if (j.size = sz ∧ ls.length = k * sz) ∧ l ≤ h ∧ h ≤ k then some (True, okeys x ++ okO lo ++ okO hi ++ [2 * b + 1], [(2 * d, .s (.ov b k (l * sz) (h - l)))]) else none
   | none => none)
  | _, _, _, _ => none)
 | _, _ => none
def nilV (op : BinOp) (ls : List Lc) (y : AV) : Option Value := match ls, y with
 | _ :: _, .v false [.lit (.slice none m0 n0)] => if m0 = 0 ∧ n0 = 0 then (match op with
  | .eql => some (.bool false)
  | .neq => some (.bool true)
  | _ => none) else none
 | _, _ => none
def slT (ty : TypeId → Option TI) (t : TypeId) : Bool := match ty t with
 | some i => i.el.isSome
 | none => false
def lenOf : AV → Option Nat
 | .v false [.ws xs] => some xs.length
 | .v false [.dg N] => some (digs B32 N).length
 | .v false [.osl _ n] => some n
 | .v false [.sl _ _ n _] => some n
 | .v false [.lit (.slice _ n _)] => some n
 | .v false [.ol _ k] => some k
 | .v false [.ov _ _ _ n] => some n
 | _ => none
def apY (st : St) : AV → Option (Nat × List Lf × List Nat)
 | .v false [.osl b' m] => (match look st (2 * b' + 1) with
  | some (.v _ ns) => some (m, ns, [2 * b' + 1])
  | _ => none)
 | .v false [.sl _ _ m ls] => some (m, ls.map Lc.up, [])
 | _ => none
def stepAp (t u : TypeId) (x y : AV) (rd : List Nat) (d : Nat) (st : St) : Option Ef := match ty t, apY st y with
 | some i, some (m, ns, rk) => (match i.el with
  | some (e, false) => (match ty e with
   | some j => if (t = u ∧ j.zero.all okLf = true ∧ ns.all okLf = true) ∧ ns.length = m * j.size ∧ 0 < m ∧ m ≤ 100000 ∧ 0 < j.size then (match x with
    | .v false [.lit (.slice none m0 n0)] => if m0 = 0 ∧ n0 = 0 then (match look st (2 * d + 1) with
     | none => some (True, rd ++ rk ++ [2 * d + 1], [(2 * d, .s (.ol d m)), (2 * d + 1, .pre e j.size ns)])
     | some _ => none) else none
    | .v false [.osl _ n0] => if n0 = 0 then (match look st (2 * d + 1) with
     | none => some (True, rd ++ rk ++ [2 * d + 1], [(2 * d, .s (.ol d m)), (2 * d + 1, .pre e j.size ns)])
     | some _ => none) else none
    | .v false [.ol b k] => (match look st (2 * b + 1) with
     | some (.pre e1 s1 ls) => if e1 = e ∧ s1 = j.size ∧ ls.length = k * s1 then some (k ≤ 100000, rd ++ rk ++ [2 * b + 1], [(2 * d, .s (.ol b (k + m))), (2 * b + 1, .pre e j.size (ls ++ ns))]) else none
     | _ => none)
    | _ => none) else none
   | none => none)
  | _ => none)
 | _, _ => none
def stepBi (b : Builtin) (ts : List TypeId) (xs : List Operand) (d : Nat) (st : St) : Option Ef := match b, ts, evl st xs with
 | .len, [t], some [v] => (match ty t, lenOf v with
  | some i, some n => if i.el.isSome = true then some (True, xs.flatMap okeys, [(2 * d, .s (.lit (.int .i64 n)))]) else none
  | _, _ => none)
 | .append, [t, u], some [.v false [.lit (.slice none m n)], .v false [.ws l]] => (match ty t with
  | some i => if (t = u ∧ m = 0 ∧ n = 0) ∧ i.el.any (·.2) = true then some (True, xs.flatMap okeys, [(2 * d, .s (.ws l))]) else none
  | none => none)
 | .append, [t, u], some [x, y] => stepAp ty t u x y (xs.flatMap okeys) d st
 | .max, _, some [.v false [.lit (.int .i64 x)], .v false [.lit (.int .i64 y)]] => some (True, xs.flatMap okeys, [(2 * d, .s (.lit (.int .i64 (max x y))))])
 | .min, _, some [.v false [.lit (.int .i64 x)], .v false [.lit (.int .i64 y)]] => some (True, xs.flatMap okeys, [(2 * d, .s (.lit (.int .i64 (min x y))))])
 | _, _, _ => none
def convK (i : TI) : Option IntKind := match i.agg, i.zv with
 | false, [.int k _] => some k
 | _, _ => none
def stepCv (s t : TypeId) (x : Operand) (d : Nat) (st : St) : Option Ef := match ty s, ty t, evs st x with
 | some _, some i, some (.v false [.lit (.int _ n)]) => (match convK i with
  | some k => some (True, okeys x, [(2 * d, .s (.lit (.int k (k.wrap n))))])
  | none => none)
 | _, _, _ => none
def stepIx (t : TypeId) (x y : Operand) (d : Nat) (st : St) : Option Ef := match ty t, evs st x, evs st y with
 | some i, some (.v false [.osl b n]), some (.v false [.lit (.int .i64 k)]) => (match i.el with
  | some (e, _) => (match ty e with
   | some j => if 0 ≤ k ∧ k.toNat < n then some (True, okeys x ++ okeys y, [(2 * d, .s (.own b (k.toNat * j.size)))]) else none
   | none => none)
  | none => none)
 | some i, some (.v false [.sl _ sz n ls]), some (.v false [.lit (.int .i64 k)]) => (match i.el with
  | some (e, _) => (match ty e with
   | some j => if (j.size = sz ∧ 0 < sz) ∧ 0 ≤ k ∧ k.toNat < n then some (True, okeys x ++ okeys y, [(2 * d, .s (.im ((ls.drop (k.toNat * sz)).take sz)))]) else none
   | none => none)
  | none => none)
 | some i, some (.v false [.ol b k0]), some (.v false [.lit (.int .i64 k)]) => (match i.el, look st (2 * b + 1) with
  | some (e, _), some (.pre _ sz ls) => (match ty e with
   | some j => if (j.size = sz ∧ ls.length = k0 * sz) ∧ 0 ≤ k ∧ k.toNat < k0 then some (True, okeys x ++ okeys y ++ [2 * b + 1], [(2 * d, .s (.oe b k0 (k.toNat * sz)))]) else none
   | none => none)
  | _, _ => none)
 | some i, some (.v false [.ov b k0 o n]), some (.v false [.lit (.int .i64 k)]) => (match i.el, look st (2 * b + 1) with
  | some (e, _), some (.pre _ sz ls) => (match ty e with
   | some j => if (j.size = sz ∧ ls.length = k0 * sz) ∧ 0 ≤ k ∧ k.toNat < n then some (True, okeys x ++ okeys y ++ [2 * b + 1], [(2 * d, .s (.oe b k0 (o + k.toNat * sz)))]) else none
   | none => none)
  | _, _ => none)
 | _, _, _ => none
def stepLoad (t : TypeId) (x : Operand) (d : Nat) (st : St) : Option Ef := match evs st x with
 | some (.v false [.own b o]) => (match ty t, look st (2 * b + 1) with
  | some i, some (.v _ ls) => if i.agg = true then (if o + i.size ≤ ls.length then some (True, okeys x ++ [2 * b + 1], [(2 * d, .v true ((ls.drop o).take i.size))]) else none)
    else (match ls[o]? with
     | some l => some (True, okeys x ++ [2 * b + 1], [(2 * d, .s l)])
     | none => none)
  | _, _ => none)
 | some (.v false [.im ls]) => (match ty t with
  | some i => if i.agg = true then (if i.size ≤ ls.length then some (True, okeys x, [(2 * d, .v true ((ls.take i.size).map Lc.up))]) else none)
    else (match ls with
     | l :: _ => some (True, okeys x, [(2 * d, .s l.up)])
     | [] => none)
  | none => none)
 | some (.v false [.oe b k o]) => (match ty t, look st (2 * b + 1) with
  | some i, some (.pre _ sz ls) => if ls.length = k * sz then (if i.agg = true then (if o + i.size ≤ ls.length then some (True, okeys x ++ [2 * b + 1], [(2 * d, .v true ((ls.drop o).take i.size))]) else none)
    else (match ls[o]? with
     | some l => some (True, okeys x ++ [2 * b + 1], [(2 * d, .s l)])
     | none => none)) else none
  | _, _ => none)
 | _ => none
def stepStore (t : TypeId) (x y : Operand) (st : St) : Option Ef := match evs st x, evs st y with
 | some (.v false [.own b o]), some (.v _ us) => (match ty t, look st (2 * b + 1) with
  | some i, some (.v true ls) => if us.length = i.size ∧ o + us.length ≤ ls.length ∧ us.all okLf = true then some (True, okeys x ++ okeys y ++ [2 * b + 1], [(2 * b + 1, .v true (ls.take o ++ us ++ ls.drop (o + us.length)))]) else none
  | _, _ => none)
 | some (.v false [.oe b k o]), some (.v _ us) => (match ty t, look st (2 * b + 1) with
  | some i, some (.pre e sz ls) => if ls.length = k * sz ∧ us.length = i.size ∧ o + us.length ≤ ls.length ∧ us.all okLf = true then some (True, okeys x ++ okeys y ++ [2 * b + 1], [(2 * b + 1, .pre e sz (ls.take o ++ us ++ ls.drop (o + us.length)))]) else none
  | _, _ => none)
 | _, _ => none
def stepField (t : TypeId) (x : Operand) (k d : Nat) (st : St) : Option Ef := match evs st x, ty t with
 | some (.v true ls), some i => (match i.flds[k]? with
  | some p => if p.1 + p.2.1 ≤ ls.length then (if p.2.2 = true then some (True, okeys x, [(2 * d, .v true ((ls.drop p.1).take p.2.1))]) else (match ls[p.1]? with
   | some l => some (True, okeys x, [(2 * d, .s l)])
   | none => none)) else none
  | none => none)
 | _, _ => none
def stepCall (c : Call) (d : Nat) (st : St) : Option Ef := match c.callee with
 | .value g => (match evs st g, evl st c.args.toList with
  | some (.v false [.clo f caps]), some vs => (match O f d st (vs ++ caps.map fun b => .s (.own b 0)) with
   | some (pre, rds, ups) => some (pre, okeys g ++ c.args.toList.flatMap okeys ++ rds, ups)
   | none => none)
  | some (.v false [.lit (.func (.func f) fs caps)]), some vs => if fs.toList = [] then (match O f d st (vs ++ caps.toList.map fun u => .s (.lit u)) with
   | some (pre, rds, ups) => some (pre, okeys g ++ c.args.toList.flatMap okeys ++ rds, ups)
   | none => none) else none
  | _, _ => none)
 | .builtin b => stepBi ty b c.argTypes.toList c.args.toList d st
 | _ => none
def stepOp (op : Op) (dst : Option Nat) (st : St) : Option Ef := match op, dst with
 | .move x, some d => (match evs st x with
  | some v => some (True, okeys x, [(2 * d, v)])
  | none => none)
 | .assign x, some d => (match evs st x with
  | some v => some (True, okeys x, [(2 * d, v)])
  | none => none)
 | .alloc t, some d => (match ty t, look st (2 * d + 1) with
  | some i, none => if i.zero.all okLf = true then some (True, [2 * d + 1], [(2 * d, .s (.own d 0)), (2 * d + 1, .v true i.zero)]) else none
  | _, _ => none)
 | .box _ x, some d => (match evs st x, look st (2 * d + 1) with
  | some (.v _ ls), none => if ls.all okLf = true then some (True, okeys x ++ [2 * d + 1], [(2 * d, .s (.own d 0)), (2 * d + 1, .v true ls)]) else none
  | _, _ => none)
 | .build t ps, some d => (match ty t, evp st ps.toList with
  | some i, some vs => if i.agg = true then (match fillA i.flds i.zero vs with
   | some ls => some (True, ps.toList.flatMap fun p => okeys p.2, [(2 * d, .v true ls)])
   | none => none) else none
  | _, _ => none)
 | .load t x, some d => stepLoad ty t x d st
 | .store t x y, none => stepStore ty t x y st
 | .fieldAddr t x k, some d => (match evs st x, ty t with
  | some (.v false [.own b o]), some i => (match i.flds[k]? with
   | some p => some (True, okeys x, [(2 * d, .s (.own b (o + p.1)))])
   | none => none)
  | some (.v false [.im ls]), some i => (match i.flds[k]? with
   | some p => if p.1 ≤ ls.length then some (True, okeys x, [(2 * d, .s (.im ((ls.drop p.1).take p.2.1)))]) else none
   | none => none)
  | some (.v false [.oe b k0 o]), some i => (match i.flds[k]? with
   | some p => some (True, okeys x, [(2 * d, .s (.oe b k0 (o + p.1)))])
   | none => none)
  | _, _ => none)
 | .field t x k, some d => stepField ty t x k d st
 | .extract x k, some d => (match evs st x with
  | some (.tup ps) => (match ps[k]? with
   | some p => some (True, okeys x, [(2 * d, .v p.1 p.2)])
   | none => none)
  | _ => none)
 | .binOp op t x y _, some d => (match evs st x, evs st y with
  | some (.v false [.lit u]), some (.v false [.lit v]) => (match binV (boolT ty t) op u v with
   | some r => some (True, okeys x ++ okeys y, [(2 * d, .s (.lit r))])
   | none => none)
  | some (.v false [.sl _ _ _ ls]), some v => if slT ty t = true then (match nilV op ls v with
   | some r => some (True, okeys x ++ okeys y, [(2 * d, .s (.lit r))])
   | none => none) else none
  | _, _ => none)
 | .unOp op _ x, some d => (match evs st x with
  | some (.v false [.lit u]) => (match unV op u with
   | some r => some (True, okeys x, [(2 * d, .s (.lit r))])
   | none => none)
  | _ => none)
 | .makeFunc (.func f) fs cs, some d => (match evl st cs.toList with
  | some vs => (match capsOf vs with
   | some bs => if fs.toList = [] then some (True, cs.toList.flatMap okeys, [(2 * d, .s (.clo f bs))]) else none
   | none => none)
  | none => none)
 | .call c, some d => stepCall ty O c d st
 | .buildSlice t len ps, some d => if len = 0 then stepB0 ty t ps.toList d st else stepBS ty t len ps.toList d st
 | .makeSlice t x y, some d => stepMk ty t x y d st
 | .slice t x lo hi none, some d => stepSl ty t x lo hi d st
 | .convert s t x, some d => stepCv ty s t x d st
 | .indexAddr t x y, some d => stepIx ty t x y d st
 | _, _ => none
end
structure OrOK (P : Program) (O : Orac) (F : Fx) (w0 : World) : Prop where
 enters : ∀ f d st args e, O f d st args = some e → ∀ (vs : Array Value) (w : World), (callFunc f vs).run P w = .ok (.enter f vs) w
 sound : ∀ f d st args e, O f d st args = some e → e.1 → ∀ N ρ a w us, Cz F w0 N ρ st a w → d < N → RA ρ (dom st) w args us →
  Calls P f us.toArray w fun en w' => ∃ u ρ', en = .returned u ∧ Cz F w0 N ρ' (e.2.2 ++ st) (a.put (some d) u) w'
 cong : ∀ f d st st' args e, O f d st args = some e → (∀ k ∈ e.2.1, look st' k = look st k) → O f d st' args = some e
section
variable {P : Program} {F : Fx} {w0 w : World} {N : Nat} {ρ : Env} {st : St} {a : Act} {o : Oper} {d : Nat} {K : Act → World → Prop} {Q : Exit → Act → World → Prop}
theorem op_run {w' : World} {u : Value} (hr : (execOp a.eval o).run P w = .ok (.value u) w') (h : K (a.put o.dst u) w') : o.wp P a w K Q := by
 unfold Oper.wp; rw [hr]; exact h
theorem RA.of (h : Cz F w0 N ρ st a w) {xs : List Operand} {vs : List AV} (hx : evl st xs = some vs) : RA ρ (dom st) w vs (xs.map a.eval) := by
 induction xs generalizing vs with
 | nil => injection hx with hx; subst hx; rfl
 | cons x xs ih =>
  unfold evl at hx
  split at hx
  ·rename_i v r h1 h2
   injection hx with hx; subst hx
   exact ⟨_, _, rfl, h.ev h1, ih h2⟩
  ·cases hx
theorem RA.append {ρ : Env} {D : Nat → Bool} {w : World} {ls ms : List AV} {us vs : List Value} (h : RA ρ D w ls us) (k : RA ρ D w ms vs) : RA ρ D w (ls ++ ms) (us ++ vs) := by
 induction ls generalizing us with
 | nil => rw [show us = [] from h]; exact k
 | cons l ls ih => obtain ⟨u, r, e, h1, h2⟩ := h; rw [e]; exact ⟨u, r ++ vs, rfl, h1, ih h2⟩
theorem RT.get {ρ : Env} {D : Nat → Bool} {w : World} {ps : List (Bool × List Lf)} {us : List Value} (h : RT ρ D w ps us) {n : Nat} {p : Bool × List Lf} (hl : ps[n]? = some p) : ∃ u, us[n]? = some u ∧ VR ρ D w p.1 p.2 u := by
 induction n generalizing ps us with
 | zero =>
  cases ps with
  | nil => simp at hl
  | cons k ps => obtain ⟨u, r, e, h1, h2⟩ := h; simp at hl; subst hl; exact ⟨u, by rw [e]; rfl, h1⟩
 | succ n ih =>
  cases ps with
  | nil => simp at hl
  | cons k ps =>
   obtain ⟨u, r, e, h1, h2⟩ := h
   obtain ⟨x, hx, hr⟩ := ih h2 (by simpa using hl)
   exact ⟨x, by rw [e]; simpa using hx, hr⟩
theorem VR.cells {ρ : Env} {D : Nat → Bool} {w : World} {g : Bool} {ls : List Lf} {u : Value} (h : VR ρ D w g ls u) (ho : g = true ∨ ls.all okLf = true) : ∃ us : List Value, u.cells = us.toArray ∧ RL ρ D w ls us := by
 cases g with
 | true => obtain ⟨us, rfl, hr⟩ := h; exact ⟨us, rfl, hr⟩
 | false =>
  have hr : RL ρ D w ls [u] := h
  have hu := (hr.okAll (ho.resolve_left (by simp)) u (by simp)).1
  exact ⟨[u], by cases u <;> first | rfl | simp [Value.oneCell'] at hu, hr⟩
theorem own_ev (h : Cz F w0 N ρ st a w) {x : Operand} {b off : Nat} (hx : evs st x = some (.v false [.own b off])) : dom st b = true ∧ a.eval x = .pointer (some ⟨ρ b, off, none⟩) := RL.one.1 (h.ev hx)
theorem lit_ev (h : Cz F w0 N ρ st a w) {x : Operand} {u : Value} (hx : evs st x = some (.v false [.lit u])) : a.eval x = u := RL.one.1 (h.ev hx)
theorem s_value {v : AV} {u : Value} (h : Cz F w0 N ρ st a w) (hd : o.dst = some d) (hN : d < N) (hr : (execOp a.eval o).run P w = .ok (.value u) w) (hv : v.R ρ (dom st) w u)
  (hK : ∀ ρ' u w', Cz F w0 N ρ' ([(2 * d, v)] ++ st) (a.put o.dst u) w' → K (a.put o.dst u) w') : o.wp P a w K Q := by
 refine op_run hr (hK ρ u w ?_)
 rw [hd]; exact h.val (Below.refl _ _) hN hv
theorem s_new {u : Value} {T : TypeId} {ls : List Lf} {cs : List Value} {l : Lf} (h : Cz F w0 N ρ st a w) (hd : o.dst = some d) (hN : d < N) (hn : look st (2 * d + 1) = none) (hu : ∀ (ρ' : Env) (D' : Nat → Bool) (w' : World), D' d = true → ρ' d = w.heap.size → l.R ρ' D' w' u) (hr : (execOp a.eval o).run P w = .ok (.value u) (w.alloc (.cells cs.toArray T))) (hv : RL ρ (dom st) w ls cs) (ho : ls.all okLf = true)
  (hK : ∀ ρ' u w', Cz F w0 N ρ' ([(2 * d, .s l), (2 * d + 1, .v true ls)] ++ st) (a.put o.dst u) w' → K (a.put o.dst u) w') : o.wp P a w K Q := by
 refine op_run hr (hK { ρ with r := fun b => if b = d then w.heap.size else ρ b } u _ ?_)
 rw [hd]; exact h.new hu hN hn hv ho
variable {ty : TypeId → Option TI} (hty : ∀ t i, ty t = some i → TiOK P t i)
include hty
theorem s_load {t : TypeId} {x : Operand} {e : Ef} (h : Cz F w0 N ρ st a w) (ho : o.op = .load t x) (hd : o.dst = some d) (hN : d < N) (hs : stepLoad ty t x d st = some e)
  (hK : ∀ ρ' u w', Cz F w0 N ρ' (e.2.2 ++ st) (a.put o.dst u) w' → K (a.put o.dst u) w') : o.wp P a w K Q := by
 unfold stepLoad at hs
 split at hs
 ·rename_i b off hx
  split at hs
  ·rename_i i g ls hi hl
   have hT := hty t i hi
   obtain ⟨g0, ls0, T, cs, e0, hB, hr0, ho0, hg⟩ := h.mv hl
   injection e0 with _ e0; subst e0
   have hev := (own_ev h hx).2
   have hlen := hr0.len
   rw [Array.length_toList] at hlen
   split at hs
   ·rename_i hag
    split at hs
    ·rename_i hle
     injection hs with hs; subst hs
     have hrun := run_loadA (w := w) hT hB.wb (o := off) (by omega) hag
     refine s_value (v := .v true ((ls.drop off).take i.size)) h hd hN (u := .agg ((cs.toList.drop off).take i.size).toArray) ?_ ⟨_, rfl, (hr0.drop off).take _⟩ hK
     unfold execOp; rw [ho]; simp only [hev, Sem.run_bind, hrun, Result.andThen_ok, Sem.run_pure]
    ·cases hs
   ·rename_i hag
    split at hs
    ·rename_i l hl'
     injection hs with hs; subst hs
     obtain ⟨u, hu, hr⟩ := hr0.get hl'
     have hrun := run_loadS (w := w) hT hB.wb hu (by simpa using hag)
     refine s_value (v := .s l) h hd hN (u := u) ?_ (RL.one.2 hr) hK
     unfold execOp; rw [ho]; simp only [hev, Sem.run_bind, hrun, Result.andThen_ok, Sem.run_pure]
    ·cases hs
  ·cases hs
 ·rename_i ls hx
  obtain ⟨g, o', T, cs, hev, hS, hB, hlen, hR⟩ : ImR (Sep ρ (dom st)) w ls (a.eval x) := RL.one.1 (h.ev hx)
  split at hs
  ·rename_i i hi
   have hT := hty t i hi
   split at hs
   ·rename_i hag
    split at hs
    ·rename_i hle
     injection hs with hs; subst hs
     have hrun := run_loadA (w := w) hT hB (o := o') (by omega) hag
     have hR' := hR.take i.size
     rw [List.take_take, Nat.min_eq_left hle] at hR'
     refine s_value (v := .v true ((ls.take i.size).map Lc.up)) h hd hN (u := .agg ((cs.toList.drop o').take i.size).toArray) ?_ ⟨_, rfl, hR'.up⟩ hK
     unfold execOp; rw [ho]; simp only [hev, Sem.run_bind, hrun, Result.andThen_ok, Sem.run_pure]
    ·cases hs
   ·rename_i hag
    split at hs
    ·rename_i l r
     injection hs with hs; subst hs
     obtain ⟨u, us, e, h1, h2⟩ := hR
     have hu : cs.toList[o']? = some u := by
      have : ((cs.toList.drop o').take (l :: r).length)[0]? = some u := by rw [e]; rfl
      rw [List.getElem?_take, if_pos (by simp), List.getElem?_drop] at this
      simpa using this
     have hrun := run_loadS (w := w) hT hB hu (by simpa using hag)
     refine s_value (v := .s l.up) h hd hN (u := u) ?_ (RL.one.2 h1.up) hK
     unfold execOp; rw [ho]; simp only [hev, Sem.run_bind, hrun, Result.andThen_ok, Sem.run_pure]
    ·cases hs
  ·cases hs
 ·rename_i b k o' hx
  split at hs
  ·rename_i i e0 sz ls hi hl
   have hT := hty t i hi
   split at hs
   case isFalse => cases hs
   rename_i hlk
   obtain ⟨hal, hgk, _, _, _, _, g, cap, cur, us, _, hob, _, ⟨T, hB⟩, hkc, _, hcs, htk, hul, _, hR⟩ := h.cur hl hlk
   obtain ⟨_, _, hev, _⟩ := RL.one.1 (h.ev hx)
   obtain ⟨g', hg', hev⟩ := hev hgk.symm
   rw [hob] at hg'; injection hg' with hg'; subst hg'
   have hcl : k * sz ≤ cur.size := by rw [hcs]; exact Nat.mul_le_mul_right _ hkc
   split at hs
   ·rename_i hag
    split at hs
    ·rename_i hle
     injection hs with hs; subst hs
     have hrun := run_loadA (w := w) hT hB.wb (o := o') (by omega) hag
     have he : (cur.toList.drop o').take i.size = (us.drop o').take i.size := by
      rw [← htk, List.drop_take, List.take_take]
      congr 1; omega
     rw [he] at hrun
     refine s_value (v := .v true ((ls.drop o').take i.size)) h hd hN (u := .agg ((us.drop o').take i.size).toArray) ?_ ⟨_, rfl, (hR.drop o').take _⟩ hK
     unfold execOp; rw [ho]; simp only [hev, Sem.run_bind, hrun, Result.andThen_ok, Sem.run_pure]
    ·cases hs
   ·rename_i hag
    split at hs
    ·rename_i l hl'
     injection hs with hs; subst hs
     obtain ⟨u, hu, hr⟩ := hR.get hl'
     have hu' : cur.toList[o']? = some u := by
      rw [← htk, List.getElem?_take] at hu
      split at hu
      ·exact hu
      ·cases hu
     have hrun := run_loadS (w := w) hT hB.wb hu' (by simpa using hag)
     refine s_value (v := .s l) h hd hN (u := u) ?_ (RL.one.2 hr) hK
     unfold execOp; rw [ho]; simp only [hev, Sem.run_bind, hrun, Result.andThen_ok, Sem.run_pure]
    ·cases hs
  ·cases hs
 ·cases hs
theorem s_store {t : TypeId} {x y : Operand} {e : Ef} (h : Cz F w0 N ρ st a w) (ho : o.op = .store t x y) (hd : o.dst = none) (hs : stepStore ty t x y st = some e)
  (hK : ∀ ρ' u w', Cz F w0 N ρ' (e.2.2 ++ st) (a.put o.dst u) w' → K (a.put o.dst u) w') : o.wp P a w K Q := by
 unfold stepStore at hs
 split at hs
 ·rename_i b off g us hx hy
  split at hs
  ·rename_i i ls hi hl
   have hT := hty t i hi
   split at hs
   ·rename_i hc
    obtain ⟨c1, c2, c3⟩ := hc
    injection hs with hs; subst hs
    obtain ⟨g0, ls0, T, cs, e0, hB, hr0, ho0, hg⟩ := h.mv hl
    injection e0 with _ e0; subst e0
    have hev := (own_ev h hx).2
    obtain ⟨vs, hv, hrv⟩ := VR.cells (h.ev hy) (.inr c3)
    have hlen := hr0.len; rw [Array.length_toList] at hlen
    have hlv := hrv.len
    have hrun := run_storeA (w := w) hT hB (o := off) hv (by omega) (by omega) (fun u hu => (hrv.okAll c3 u hu).1)
    have hfin := h.put hl (((hr0.take off).append hrv).append (hr0.drop (off + us.length))) (by
     rw [List.all_append, List.all_append, c3, Bool.and_true, Bool.and_eq_true]
     exact ⟨List.all_eq_true.2 fun l hm => List.all_eq_true.1 ho0 l (List.mem_of_mem_take hm), List.all_eq_true.2 fun l hm => List.all_eq_true.1 ho0 l (List.mem_of_mem_drop hm)⟩)
    unfold Oper.wp execOp
    rw [ho]
    simp only [hev, Sem.run_bind, hrun, Result.andThen_ok, Sem.run_pure, Oper.upon_skip]
    refine hK ρ undef _ ?_
    rw [hd]
    show Cz F w0 N ρ _ a _
    rw [← hlv] at hfin ⊢
    exact hfin
   ·cases hs
  ·cases hs
 ·rename_i b k o' g us hx hy
  split at hs
  ·rename_i i e0 sz ls hi hl
   have hT := hty t i hi
   split at hs
   ·rename_i hc
    obtain ⟨hlk, c1, c2, c3⟩ := hc
    injection hs with hs; subst hs
    obtain ⟨hal, hgk, hk0, hsz, hok, hdm, g1, cap, cur, us0, hgh, hob, hbg, ⟨T0, hB⟩, hkc, hcm, hcs, htk, hul, hcok, hR⟩ := h.cur hl hlk
    obtain ⟨_, _, hev, _⟩ := RL.one.1 (h.ev hx)
    obtain ⟨g', hg', hev⟩ := hev hgk.symm
    rw [hob] at hg'; injection hg' with hg'; subst hg'
    have hcl : k * sz ≤ cur.size := by rw [hcs]; exact Nat.mul_le_mul_right _ hkc
    obtain ⟨vs, hv, hrv⟩ := VR.cells (h.ev hy) (.inr c3)
    have hlv := hrv.len
    have hvok : ∀ u ∈ vs, Ok1 u := hrv.okAll c3
    have hrun := run_storeA (w := w) hT hB (o := o') hv (by omega) (by omega) (fun u hu => (hvok u hu).1)
    have hR' := ((hR.take o').append hrv).append (hR.drop (o' + us.length))
    have hlus : us0.length = k * sz := hul
    have hln : (us0.take o' ++ vs ++ us0.drop (o' + us.length)).length = k * sz := by
     simp only [List.length_append, List.length_take, List.length_drop]; omega
    have hfin := h.apM (row := some g1) (v' := ρ.gh b) (n := k) (e := e0) (sz := sz) (us := us0.take o' ++ vs ++ us0.drop (o' + us.length)) (w' := w.setRow g1 (cur.toList.take o' ++ vs ++ cur.toList.drop (o' + vs.length)).toArray) hdm hsz (hk0.imp (fun e => List.eq_nil_of_length_eq_zero (by have e2 := congrArg List.length e; simp only [List.length_append, List.length_take, List.length_drop, List.length_nil] at e2 ⊢; omega)) id) (fun _ => ⟨by omega, fun _ => rfl⟩) ⟨by simp, by simp, by simp, by simp, fun x _ hx => setRow_other w _ _ _ (fun e => hx (by rw [e]))⟩ (fun g' hg' => by injection hg' with hg'; subst hg'; exact ⟨hal, hob⟩) (Keeps.setRow hB (fun u hu => (hcok u hu).2) fun hS => hS.2 b hal hob) (fun g' hg' => .inl (by rw [hob] at hg'; exact hg')) (by
     rw [List.all_append, List.all_append, c3, Bool.and_true, Bool.and_eq_true]
     exact ⟨List.all_eq_true.2 fun l hm => List.all_eq_true.1 hok l (List.mem_of_mem_take hm), List.all_eq_true.2 fun l hm => List.all_eq_true.1 hok l (List.mem_of_mem_drop hm)⟩) (by
     refine ⟨g1, cap, _, hgh, hbg, ⟨T0, setRow_heap w _ cur _ _ _ hB⟩, hkc, hcm, ?_, ?_, fun u hu => ?_⟩
     ·simp only [List.size_toArray, List.length_append, List.length_take, List.length_drop, Array.length_toList]; omega
     ·show (cur.toList.take o' ++ vs ++ cur.toList.drop (o' + vs.length)).take (k * sz) = _
      rw [List.append_assoc, List.take_append, List.take_append, List.length_take, Array.length_toList, Nat.min_eq_left (by omega), List.append_assoc]
      congr 1
      ·rw [← htk, List.take_take, List.take_take]; congr 1; omega
      ·rw [List.take_of_length_le (by omega)]
       congr 1
       rw [← htk, List.drop_take, hlv]
       congr 1; omega
     ·rcases List.mem_append.1 hu with hu | hu
      ·rcases List.mem_append.1 hu with hu | hu
       ·exact hcok u (List.mem_of_mem_take hu)
       ·exact hvok u hu
      ·exact hcok u (List.mem_of_mem_drop hu)) hR'
    unfold Oper.wp execOp
    rw [ho]
    simp only [hev, Sem.run_bind, hrun, Result.andThen_ok, Sem.run_pure, Oper.upon_skip]
    refine hK (ρ.up b (ρ.gh b) k) undef _ ?_
    rw [hd]
    exact hfin
   ·cases hs
  ·cases hs
 ·cases hs
theorem s_field {t : TypeId} {x : Operand} {k : Nat} {e : Ef} (h : Cz F w0 N ρ st a w) (ho : o.op = .field t x k) (hd : o.dst = some d) (hN : d < N) (hs : stepField ty t x k d st = some e)
  (hK : ∀ ρ' u w', Cz F w0 N ρ' (e.2.2 ++ st) (a.put o.dst u) w' → K (a.put o.dst u) w') : o.wp P a w K Q := by
 unfold stepField at hs
 split at hs
 ·rename_i ls i hx hi
  have hT := hty t i hi
  obtain ⟨us, hev, hr0⟩ : ∃ us : List Value, a.eval x = .agg us.toArray ∧ RL ρ (dom st) w ls us := h.ev hx
  have hlen := hr0.len
  split at hs
  ·rename_i p hp
   split at hs
   ·rename_i hle
    split at hs
    ·rename_i hag
     injection hs with hs; subst hs
     have hrun := run_part (w := w) hT hp (us := us) (v := .agg ((us.drop p.1).take p.2.1).toArray) (by rw [hag]; simp)
     refine s_value (v := .v true ((ls.drop p.1).take p.2.1)) h hd hN (u := .agg ((us.drop p.1).take p.2.1).toArray) ?_ ⟨_, rfl, (hr0.drop _).take _⟩ hK
     unfold execOp; rw [ho]; simp only [hev, Sem.run_bind, hrun, Result.andThen_ok, Sem.run_pure]
    ·rename_i hag
     split at hs
     ·rename_i l hl
      injection hs with hs; subst hs
      obtain ⟨u, hu, hr⟩ := hr0.get hl
      have hrun := run_part (w := w) hT hp (us := us) (v := u) (by simpa [hag] using hu)
      refine s_value (v := .s l) h hd hN (u := u) ?_ (RL.one.2 hr) hK
      unfold execOp; rw [ho]; simp only [hev, Sem.run_bind, hrun, Result.andThen_ok, Sem.run_pure]
     ·cases hs
   ·cases hs
  ·cases hs
 ·cases hs
omit hty in
theorem run_eqb {t : TypeId} {a' b' : Bool} (hu : P.underlying t = some .bool) : (Op.equal t (.bool a') (.bool b')).run P w = .ok (a' == b') w := by
 unfold Op.equal
 generalize hn : Op.maxDepth = n
 cases n with
 | zero => cases hn
 | succ n =>
  unfold Op.equalIn
  rw [Sem.run_bind, run_underlying hu, Result.andThen_ok]
  rfl
omit hty in
theorem run_bin {isB : Bool} {op : BinOp} {t : TypeId} {x y : Operand} {u v r : Value} (hB : isB = true → P.underlying t = some .bool) (h : binV isB op u v = some r) :
  (do eqGuard op t x y u v; binOp op t u v : Sem Value).run P w = .ok r w := by
 unfold binV at h
 split at h
 ·rename_i k a' k' b'
  have hg : (eqGuard op t x y (.int k a') (.int k' b')).run P w = .ok () w := by unfold eqGuard; cases op <;> rfl
  rw [Sem.run_bind, hg, Result.andThen_ok]
  split at h
  ·rename_i s hs
   injection h with h; subst h
   unfold shV at hs
   split at hs
   ·split at hs
    ·cases hs
    ·rename_i hb
     injection hs with hs; subst hs
     simp only [binOp, Op.shift]; rw [if_neg hb]; rfl
   ·split at hs
    ·cases hs
    ·rename_i hb
     injection hs with hs; subst hs
     simp only [binOp, Op.shift]; rw [if_neg hb]; rfl
   ·cases hs
  ·rename_i hs
   split at h
   ·rename_i hk
    subst hk
    unfold intV at h
    split at h
    all_goals first
     | (injection h with h; subst h; simp [binOp, Op.intCmp, Op.intArith, Op.intBits, bits])
     | (split at h
        ·cases h
        ·rename_i hb
         injection h with h; subst h
         simp [binOp, Op.intDiv, hb])
     | cases h
   ·cases h
 ·rename_i a' b'
  have hg : (eqGuard op t x y (.bool a') (.bool b')).run P w = .ok () w := by unfold eqGuard; cases op <;> rfl
  rw [Sem.run_bind, hg, Result.andThen_ok]
  split at h
  ·rename_i hb
   have hu := hB hb
   split at h
   ·injection h with h; subst h
    simp only [binOp, Sem.run_bind, run_eqb hu, Result.andThen_ok, Sem.run_pure]
   ·injection h with h; subst h
    simp only [binOp, Sem.run_bind, run_eqb hu, Result.andThen_ok, Sem.run_pure]
   ·cases h
  ·cases h
 ·cases h
end
end
section
theorem fold_set (us : List Value) : ∀ (n off : Nat) (cs : Array Value), off + n + us.length ≤ cs.size →
  (us.zipIdx n).foldl (fun cs (p : Value × Nat) => cs.setIfInBounds (off + p.2) p.1) cs = (cs.toList.take (off + n) ++ us ++ cs.toList.drop (off + n + us.length)).toArray := by
 induction us with
 | nil => intro n off cs h; simp
 | cons u us ih =>
  intro n off cs h
  rw [List.length_cons] at h
  rw [List.zipIdx_cons, List.foldl_cons, ih (n + 1) off _ (by simp; omega)]
  simp only [Array.toList_setIfInBounds]
  rw [show off + (n + 1) = off + n + 1 by omega]
  have e1 : (cs.toList.set (off + n) u).take (off + n + 1) = cs.toList.take (off + n) ++ [u] := by
   rw [List.take_succ_eq_append_getElem (by simp; omega), List.take_set, List.set_eq_of_length_le (by simp; omega)]
   simp
  have e2 : (cs.toList.set (off + n) u).drop (off + n + 1 + us.length) = cs.toList.drop (off + n + (us.length + 1)) := by
   rw [List.drop_set, if_pos (by omega)]
   congr 1; omega
  rw [e1, e2]
  simp
section
variable {P : Program} {F : Fx} {w0 w : World} {N : Nat} {ρ : Env} {st : St} {a : Act} {o : Oper} {d : Nat} {K : Act → World → Prop} {Q : Exit → Act → World → Prop}
def mpair (a : Act) (p : Nat × Operand) : Nat × Value := (p.1, a.eval p.2)
theorem fill_run (h : Cz F w0 N ρ st a w) {flds : List (Nat × Nat × Bool)} {place : Nat → Option (Nat × Nat)} (hp : ∀ k p, flds[k]? = some p → place k = some (p.1, p.2.1)) :
  ∀ (ps : List (Nat × Operand)) (vs : List (Nat × AV)) (ls ls' : List Lf) (cs : List Value), evp st ps = some vs → fillA flds ls vs = some ls' → RL ρ (dom st) w ls cs →
   ∃ cs', Instr.fill place cs.toArray (ps.map (mpair a)) = some cs'.toArray ∧ RL ρ (dom st) w ls' cs' := by
 intro ps
 induction ps with
 | nil =>
  intro vs ls ls' cs h1 h2 h3
  injection h1 with h1; subst h1
  injection h2 with h2; subst h2
  exact ⟨cs, rfl, h3⟩
 | cons p ps ih =>
  intro vs ls ls' cs h1 h2 h3
  obtain ⟨k, x⟩ := p
  unfold evp at h1
  split at h1
  ·rename_i v r hv hr
   injection h1 with h1; subst h1
   cases v with
   | tup _ => simp [fillA] at h2
   | pre _ _ _ => simp [fillA] at h2
   | v g us =>
    unfold fillA at h2
    split at h2
    ·rename_i q hq
     split at h2
     ·rename_i hc
      obtain ⟨c1, c2, c3⟩ := hc
      obtain ⟨zs, hz, hzr⟩ := VR.cells (h.ev hv) c3
      have hl := h3.len; have hlz := hzr.len
      have := ih r _ ls' (cs.take q.1 ++ zs ++ cs.drop (q.1 + q.2.1)) hr h2 (((h3.take _).append hzr).append (h3.drop _))
      obtain ⟨cs', e, hR⟩ := this
      refine ⟨cs', ?_, hR⟩
      rw [← e]
      simp only [List.map_cons, mpair, Instr.fill, hp k q hq, hz, List.size_toArray]
      rw [if_neg (by simp; omega)]
      congr 1
      have hf := fold_set zs 0 q.1 cs.toArray (by simp; omega)
      simp only [Nat.add_zero] at hf
      rw [show q.1 + q.2.1 = q.1 + zs.length by omega, ← hf]
      simp
     ·cases h2
    ·cases h2
  ·cases h1
variable {ty : TypeId → Option TI} (hty : ∀ t i, ty t = some i → TiOK P t i)
include hty
theorem s_build {t : TypeId} {ps : Array (Nat × Operand)} {i : TI} {vs : List (Nat × AV)} {ls : List Lf} (h : Cz F w0 N ρ st a w) (ho : o.op = .build t ps) (hd : o.dst = some d) (hN : d < N) (hi : ty t = some i) (hv : evp st ps.toList = some vs) (hg : i.agg = true) (hf : fillA i.flds i.zero vs = some ls)
  (hK : ∀ ρ' u w', Cz F w0 N ρ' ([(2 * d, .v true ls)] ++ st) (a.put o.dst u) w' → K (a.put o.dst u) w') : o.wp P a w K Q := by
 have hT := hty t i hi
 obtain ⟨fs, hu, hm⟩ := hT.pl hg
 obtain ⟨cs', e, hR⟩ := fill_run h (flds := i.flds) (place := fun k => ((i.flds.map fun p => (p.1, p.2.1)).toArray)[k]?) (fun k p hp => by simp [hp]) ps.toList vs i.zero ls i.zv hv hf (hT.rz _ _ _)
 have hz := hT.zero
 have hb : P.built t (ps.map fun (k, x) => (k, a.eval x)).toList = some cs'.toArray := by
  unfold Program.built
  cases hq : P.info? t with
  | none => rw [hq] at hz; cases hz
  | some it =>
   rw [hq] at hz
   have hz : it.zero = some (zof i) := hz
   simp only [hu, hz, hm, zof_cells hT]
   rw [← e]
   simp only [Array.toList_map]
   rfl
 have hrun := run_build (P := P) w t (ps.map fun (k, x) => (k, a.eval x)) cs'.toArray hb
 refine s_value (v := .v true ls) h hd hN (u := .agg cs'.toArray) ?_ ⟨cs', rfl, hR⟩ hK
 unfold execOp; rw [ho]; simp only [Sem.run_bind, hrun, Result.andThen_ok, Sem.run_pure]
omit hty in
theorem caps_ev (h : Cz F w0 N ρ st a w) : ∀ (xs : List Operand) (vs : List AV) (bs : List Nat), evl st xs = some vs → capsOf vs = some bs →
  xs.map a.eval = (bs.map fun b => Value.pointer (some ⟨ρ b, 0, none⟩)) ∧ ∀ b ∈ bs, dom st b = true := by
 intro xs
 induction xs with
 | nil => intro vs bs h1 h2; injection h1 with h1; subst h1; injection h2 with h2; subst h2; exact ⟨rfl, fun b hb => by cases hb⟩
 | cons x xs ih =>
  intro vs bs h1 h2
  unfold evl at h1
  split at h1
  ·rename_i v r hv hr
   injection h1 with h1; subst h1
   unfold capsOf at h2
   split at h2
   ·rename_i heq; cases heq
   ·rename_i b q heq
    injection heq with e1 e2; subst e1; subst e2
    split at h2
    ·rename_i cs hcs
     injection h2 with h2; subst h2
     obtain ⟨i1, i2⟩ := ih _ _ hr hcs
     obtain ⟨o1, o2⟩ := own_ev h hv
     refine ⟨by rw [List.map_cons, List.map_cons, i1, o2], fun c hc => ?_⟩
     rcases List.mem_cons.1 hc with rfl | hc
     ·exact o1
     ·exact i2 c hc
    ·cases h2
   ·cases h2
  ·cases h1
omit hty in
theorem RA.owns {D : Nat → Bool} {bs : List Nat} (h : ∀ b ∈ bs, D b = true) : RA ρ D w (bs.map fun b => AV.s (.own b 0)) (bs.map fun b => Value.pointer (some ⟨ρ b, 0, none⟩)) := by
 induction bs with
 | nil => rfl
 | cons b bs ih => exact ⟨_, _, rfl, RL.one.2 ⟨h b (by simp), rfl⟩, ih (fun c hc => h c (by simp [hc]))⟩
omit hty in
theorem RA.lits {D : Nat → Bool} (us : List Value) : RA ρ D w (us.map fun u => AV.s (.lit u)) us := by
 induction us with
 | nil => rfl
 | cons u us ih => exact ⟨_, _, rfl, RL.one.2 rfl, ih⟩
omit hty in
theorem evd_of (h : Cz F w0 N ρ st a w) : ∀ (ps : List (Nat × Operand)) (k : Nat) (vs : List AV), evd st k ps = some vs → RA ρ (dom st) w vs (ps.map fun p => a.eval p.2) ∧ vs.length = ps.length ∧ ∀ (j : Nat) (p : Nat × Operand), ps[j]? = some p → p.1 = k + j := by
 intro ps
 induction ps with
 | nil => intro k vs hv; injection hv with hv; subst hv; exact ⟨rfl, rfl, fun j p h => by simp at h⟩
 | cons p ps ih =>
  intro k vs hv
  obtain ⟨j0, x⟩ := p
  unfold evd at hv
  split at hv
  ·rename_i hj
   split at hv
   ·rename_i v r h1 h2
    injection hv with hv; subst hv
    obtain ⟨i1, i2, i3⟩ := ih (k + 1) r h2
    refine ⟨⟨_, _, rfl, h.ev h1, i1⟩, by simp [i2], fun j p hp => ?_⟩
    cases j with
    | zero => simp at hp; subst hp; simpa using hj
    | succ j => have := i3 j p (by simpa using hp); omega
   ·cases hv
  ·cases hv
omit hty in
theorem fill_dense (sz : Nat) : ∀ (ps : List (Nat × Value)) (k : Nat) (cells : Array Value) (us : List (List Value)), ps.length = us.length → (∀ (j : Nat) (p : Nat × Value) (u : List Value), ps[j]? = some p → us[j]? = some u → p.1 = k + j ∧ p.2.cells = u.toArray ∧ u.length = sz) → k * sz + us.length * sz ≤ cells.size →
  Instr.fill (fun i => some (i * sz, sz)) cells ps = some (cells.toList.take (k * sz) ++ us.flatten ++ cells.toList.drop (k * sz + us.length * sz)).toArray := by
 intro ps
 induction ps with
 | nil => intro k cells us hl _ _; cases us with
  | nil => simp [Instr.fill]
  | cons _ _ => simp at hl
 | cons p ps ih =>
  intro k cells us hl hp hs
  cases us with
  | nil => simp at hl
  | cons u us =>
   obtain ⟨e1, e2, e3⟩ := hp 0 p u rfl rfl
   obtain ⟨i, v⟩ := p
   simp only at e1 e2
   rw [Nat.add_zero] at e1
   subst e1
   have hsz : i * sz + (sz + us.length * sz) ≤ cells.size := by
    have : (us.length + 1) * sz = us.length * sz + sz := by rw [Nat.add_mul, Nat.one_mul]
    simp only [List.length_cons] at hs
    omega
   unfold Instr.fill
   simp only [e2, List.size_toArray, e3]
   rw [if_neg (by simp; omega)]
   have hf := fold_set u 0 (i * sz) cells (by omega)
   simp only [Nat.add_zero] at hf
   have hz : (u.toArray.zipIdx.foldl (fun cs (p : Value × Nat) => cs.setIfInBounds (i * sz + p.2) p.1) cells) = (cells.toList.take (i * sz) ++ u ++ cells.toList.drop (i * sz + u.length)).toArray := by
    rw [← hf]; simp
   rw [hz]
   have hmul : (i + 1) * sz = i * sz + sz := by rw [Nat.add_mul, Nat.one_mul]
   have hmul2 : (us.length + 1) * sz = us.length * sz + sz := by rw [Nat.add_mul, Nat.one_mul]
   rw [ih (i + 1) _ us (by simpa using hl) (fun j p u' h1 h2 => by
    obtain ⟨a1, a2, a3⟩ := hp (j + 1) p u' (by simpa using h1) (by simpa using h2)
    exact ⟨by omega, a2, a3⟩) (by simp [hmul]; omega)]
   congr 2
   have hlt : (cells.toList.take (i * sz) ++ u).length = i * sz + sz := by simp; omega
   simp only [List.length_cons, hmul, hmul2, List.flatten_cons]
   rw [List.take_append_of_le_length (by omega), List.take_of_length_le (by omega)]
   rw [List.drop_append, List.drop_of_length_le (by omega), hlt, List.nil_append, List.drop_drop]
   simp only [List.append_assoc]
   congr 4
   omega
omit hty in
theorem words_R {zs : List Int} : ∀ {vs : List AV} {us : List Value}, wordsOf vs = some zs → RA ρ (dom st) w vs us → us = zs.map (Value.int .u64) := by
 intro vs
 induction vs generalizing zs with
 | nil => intro us h1 h2; injection h1 with h1; subst h1; exact h2
 | cons v vs ih =>
  intro us h1 h2
  unfold wordsOf at h1
  split at h1
  ·rename_i heq; cases heq
  ·rename_i z r heq
   injection heq with e1 e2; subst e1; subst e2
   split at h1
   ·rename_i qs hq
    injection h1 with h1; subst h1
    obtain ⟨u, us', e, hu, hr⟩ := h2
    have hu : u = .int .u64 z := RL.one.1 hu
    rw [e, hu, ih hq hr]; rfl
   ·cases h1
  ·cases h1
omit hty in
theorem inW_small : ∀ (zs : List Int), inW zs → Small B64 (zs.map Int.toNat) ∧ zs.map (Value.int .u64) = ints .u64 (zs.map Int.toNat) := by
 intro zs
 induction zs with
 | nil => intro _; exact ⟨Small.nil, rfl⟩
 | cons z zs ih =>
  intro h
  obtain ⟨⟨h1, h2⟩, h3⟩ := h
  obtain ⟨i1, i2⟩ := ih h3
  refine ⟨Small.cons (by unfold B64; omega) i1, ?_⟩
  unfold ints at i2 ⊢
  simp only [List.map_cons]
  rw [i2]
  congr 2
  omega
omit hty in
theorem rows_R {n : Nat} : ∀ {vs : List AV} {us : List Value} {ls : List Lf}, rowsOf n vs = some ls → RA ρ (dom st) w vs us → ∃ rs : List (List Value), rs.length = us.length ∧ (∀ (j : Nat) (u : Value) (r : List Value), us[j]? = some u → rs[j]? = some r → u.cells = r.toArray ∧ r.length = n) ∧ RL ρ (dom st) w ls rs.flatten ∧ ls.all okLf = true := by
 intro vs
 induction vs with
 | nil => intro us ls h1 h2; injection h1 with h1; subst h1; rw [show us = [] from h2]; exact ⟨[], rfl, (fun j u r h => by simp at h), rfl, rfl⟩
 | cons v vs ih =>
  intro us ls h1 h2
  cases v with
  | tup _ => simp [rowsOf] at h1
  | pre _ _ _ => simp [rowsOf] at h1
  | v g ms =>
   unfold rowsOf at h1
   split at h1
   ·rename_i hc
    split at h1
    ·rename_i qs hq
     injection h1 with h1; subst h1
     obtain ⟨u, us', rfl, hu, hr⟩ := h2
     obtain ⟨rs, a1, a2, a3, a4⟩ := ih hq hr
     obtain ⟨zs, hz, hzr⟩ := VR.cells hu (.inr hc.2)
     refine ⟨zs :: rs, by simp [a1], fun j x r hx hr' => ?_, ?_, by rw [List.all_append, hc.2, a4]; rfl⟩
     ·cases j with
      | zero => simp at hx hr'; subst hx; subst hr'; exact ⟨hz, by have := hzr.len; omega⟩
      | succ j => exact a2 j x r (by simpa using hx) (by simpa using hr')
     ·rw [List.flatten_cons]; exact hzr.append a3
    ·cases h1
   ·cases h1
omit hty in
theorem flat_one : ∀ (zs : List Int), (zs.map fun z => [Value.int .u64 z]).flatten = zs.map (Value.int .u64) := by
 intro zs
 induction zs with
 | nil => rfl
 | cons a b ih => rw [List.map_cons, List.flatten_cons, ih]; rfl
omit hty in
theorem flat_len {n : Nat} : ∀ (rs : List (List Value)), (∀ r ∈ rs, r.length = n) → rs.flatten.length = rs.length * n := by
 intro rs
 induction rs with
 | nil => intro _; simp
 | cons r rs ih =>
  intro h
  rw [List.flatten_cons, List.length_append, h r (by simp), ih (fun x hx => h x (by simp [hx])), List.length_cons, Nat.add_mul, Nat.one_mul]; omega
omit hty in
theorem fill_all {us : List Value} {ps : List (Nat × Operand)} {rs : List (List Value)} {n len : Nat} (hpl : len = ps.length) (hus : us = ps.map fun p => a.eval p.2) (hix : ∀ (j : Nat) (p : Nat × Operand), ps[j]? = some p → p.1 = 0 + j) (hrl : rs.length = us.length) (hrs : ∀ (j : Nat) (u : Value) (r : List Value), us[j]? = some u → rs[j]? = some r → u.cells = r.toArray ∧ r.length = n) (cells : Array Value) (hc : cells.size = len * n) :
  Instr.fill (fun i => some (i * n, n)) cells (ps.map (mpair a)) = some rs.flatten.toArray := by
 have hlen : rs.length = len := by rw [hrl, hus, List.length_map, hpl]
 have hall : ∀ r ∈ rs, r.length = n := fun r hr => by
  obtain ⟨j, hj⟩ := List.mem_iff_getElem?.1 hr
  have hjl : j < us.length := by
   rcases Nat.lt_or_ge j rs.length with h | h
   ·omega
   ·rw [List.getElem?_eq_none h] at hj; cases hj
  exact (hrs j us[j] r (List.getElem?_eq_getElem hjl) hj).2
 have hfl := flat_len rs hall
 have := fill_dense n (ps.map (mpair a)) 0 cells rs (by rw [List.length_map]; omega) (fun j p u h1 h2 => by
  rw [List.getElem?_map] at h1
  cases hq : ps[j]? with
  | none => rw [hq] at h1; cases h1
  | some q =>
   rw [hq] at h1; injection h1 with h1; subst h1
   have hu : us[j]? = some (a.eval q.2) := by rw [hus, List.getElem?_map, hq]; rfl
   obtain ⟨b1, b2⟩ := hrs j _ u hu h2
   exact ⟨hix j q hq, b1, b2⟩) (by rw [hlen, hc]; omega)
 rw [this]
 congr 2
 simp only [Nat.zero_mul, List.take_zero, List.nil_append, Nat.zero_add]
 rw [List.drop_of_length_le (by rw [Array.length_toList, hlen, hc]; omega), List.append_nil]
theorem s_bs {t : TypeId} {len : Nat} {ps : Array (Nat × Operand)} {e : Ef} (h : Cz F w0 N ρ st a w) (ho : o.op = .buildSlice t len ps) (hd : o.dst = some d) (hN : d < N) (hs : stepBS ty t len ps.toList d st = some e) (hp : e.1)
  (hK : ∀ ρ' u w', Cz F w0 N ρ' (e.2.2 ++ st) (a.put o.dst u) w' → K (a.put o.dst u) w') : o.wp P a w K Q := by
 unfold stepBS at hs
 split at hs
 ·rename_i i vs hi hv
  have hT := hty t i hi
  obtain ⟨hA, hvl, hix⟩ := evd_of h _ _ _ hv
  have hparts : (ps.map fun (k, x) => (k, a.eval x)).toList = ps.toList.map (mpair a) := by simp only [Array.toList_map]; rfl
  split at hs
  ·rename_i hc
   obtain ⟨c1, c2, c3⟩ := hc
   split at hs
   ·rename_i e0 hel
    split at hs
    ·rename_i zs hz
     injection hs with hs; subst hs
     obtain ⟨hu, hx⟩ := hT.sl _ _ hel
     obtain ⟨ie, z, hie, hsz, hzz, _⟩ := hx rfl
     have hw := words_R hz hA
     obtain ⟨hsm, hints⟩ := inW_small zs hp
     have hlz : zs.length = len := by have := congrArg List.length hw; rw [List.length_map, List.length_map] at this; omega
     have hfill := fill_all (a := a) (us := zs.map (Value.int .u64)) (ps := ps.toList) (rs := zs.map fun z => [Value.int .u64 z]) (n := 1) (len := len) c1 hw.symm hix (by simp) (fun j u r h1 h2 => by
      rw [List.getElem?_map] at h1 h2
      cases hq : zs[j]? with
      | none => rw [hq] at h1; cases h1
      | some z => rw [hq] at h1 h2; injection h1 with h1; injection h2 with h2; subst h1; subst h2; exact ⟨rfl, rfl⟩) ((Array.range (len * ie.size)).map (z.cells[· % z.cells.size]!)) (by simp [hsz])
     have hflat : (zs.map fun z => [Value.int .u64 z]).flatten = ints .u64 (zs.map Int.toNat) := by
      rw [← hints]
      exact flat_one zs
     rw [hflat] at hfill
     have hrun := run_buildSlice (P := P) w t e0 len (ps.map fun (k, x) => (k, a.eval x)) (ints .u64 (zs.map Int.toNat)).toArray ie z hu hie hzz (by rw [hsz]; omega) (by rw [hsz]; omega) (by rw [hparts, hsz]; rw [hsz] at hfill; exact hfill)
     have hrow : Row .u64 (w.alloc (.cells (ints .u64 (zs.map Int.toNat)).toArray e0)) w.heap.size e0 (zs.map Int.toNat) := Blk.new w e0 _
     have hb := one_below w (.cells (ints .u64 (zs.map Int.toNat)).toArray e0)
     refine op_run (w' := w.alloc (.cells (ints .u64 (zs.map Int.toNat)).toArray e0)) (u := .slice (some ⟨w.heap.size, 0, none⟩) len len) ?_ (hK ρ _ _ ?_)
     ·unfold execOp; rw [ho]; simp only [Sem.run_bind, hrun, Result.andThen_ok, Sem.run_pure]
     ·rw [hd]
      refine h.val hb hN (RL.one.2 ⟨some ⟨w.heap.size, 0, none⟩, len, len, rfl, ⟨?_, hsm⟩, by omega⟩)
      have := hrow.rd0 (lo := 0) (hi := (w.alloc (.cells (ints .u64 (zs.map Int.toNat)).toArray e0)).heap.size) (c := len) (Nat.zero_le _) (by simp) (by simp [hlz])
      simpa [hlz] using this
    ·cases hs
   ·rename_i e0 hel
    split at hs
    ·rename_i j hj hn
     split at hs
     ·rename_i hjs
      split at hs
      ·rename_i ls hls
       injection hs with hs; subst hs
       obtain ⟨hu, _⟩ := hT.sl _ _ hel
       have hE := hty e0 j hj
       obtain ⟨rs, a1, a2, a3, a4⟩ := rows_R hls hA
       cases hie : P.info? e0 with
       | none => have := hE.size; rw [hie] at this; cases this
       | some ie =>
        have hsz : ie.size = j.size := by have := hE.size; rw [hie] at this; injection this
        have hzz : ie.zero = some (zof j) := by have := hE.zero; rw [hie] at this; exact this
        have hfill := fill_all (a := a) (ps := ps.toList) (rs := rs) (n := j.size) (len := len) c1 rfl hix a1 a2 ((Array.range (len * ie.size)).map ((zof j).cells[· % (zof j).cells.size]!)) (by simp [hsz])
        have hpos : 0 < len * j.size := Nat.mul_pos c2 hjs.1
        have hle : len * j.size ≤ 1000 * 100 := Nat.mul_le_mul c3 hjs.2
        have hrun := run_buildSlice (P := P) w t e0 len (ps.map fun (k, x) => (k, a.eval x)) rs.flatten.toArray ie (zof j) hu hie hzz (by rw [hsz]; omega) (by rw [hsz]; omega) (by rw [hparts, hsz]; rw [hsz] at hfill; exact hfill)
        refine s_new (l := .osl d len) (T := e0) (cs := rs.flatten) (u := .slice (some ⟨w.heap.size, 0, none⟩) len len) h hd hN hn (fun _ _ _ h e => ⟨h, by rw [e]⟩) ?_ a3 a4 hK
        unfold execOp; rw [ho]; simp only [Sem.run_bind, hrun, Result.andThen_ok, Sem.run_pure]
      ·cases hs
     ·cases hs
    ·cases hs
   ·cases hs
  ·cases hs
 ·cases hs
theorem s_cv {s t : TypeId} {x : Operand} {e : Ef} (h : Cz F w0 N ρ st a w) (ho : o.op = .convert s t x) (hd : o.dst = some d) (hN : d < N) (hs : stepCv ty s t x d st = some e)
  (hK : ∀ ρ' u w', Cz F w0 N ρ' (e.2.2 ++ st) (a.put o.dst u) w' → K (a.put o.dst u) w') : o.wp P a w K Q := by
 unfold stepCv at hs
 split at hs
 ·rename_i i0 i k0 n h1 h2 hx
  split at hs
  ·rename_i k hk
   injection hs with hs; subst hs
   have hu : P.underlying t = some (.int k) := by
    unfold convK at hk
    split at hk
    ·rename_i z ha hz
     injection hk with hk; subst hk
     exact (hty t i h2).ik _ _ ha hz
    ·cases hk
   have hr := (hty s i0 h1).row
   cases hus : P.underlying s with
   | none => rw [hus] at hr; cases hr
   | some ds =>
    refine s_value (v := .s (.lit (.int k (k.wrap n)))) h hd hN (u := .int k (k.wrap n)) ?_ (RL.one.2 rfl) hK
    unfold execOp; rw [ho]
    simp only [lit_ev h hx, convert, Sem.run_bind, run_underlying hu, run_underlying hus, Result.andThen_ok, Conv.intToInt, Sem.run_pure]
  ·cases hs
 ·cases hs
theorem s_ix {t : TypeId} {x y : Operand} {e : Ef} (h : Cz F w0 N ρ st a w) (ho : o.op = .indexAddr t x y) (hd : o.dst = some d) (hN : d < N) (hs : stepIx ty t x y d st = some e)
  (hK : ∀ ρ' u w', Cz F w0 N ρ' (e.2.2 ++ st) (a.put o.dst u) w' → K (a.put o.dst u) w') : o.wp P a w K Q := by
 unfold stepIx at hs
 split at hs
 ·rename_i i b n k hi hx hy
  split at hs
  ·rename_i e0 b0 hel
   split at hs
   ·rename_i j hj
    split at hs
    ·rename_i hc
     injection hs with hs; subst hs
     obtain ⟨hu, _⟩ := (hty t i hi).sl _ _ hel
     obtain ⟨hdb, hev⟩ : dom st b = true ∧ a.eval x = .slice (some ⟨ρ b, 0, none⟩) n n := RL.one.1 (h.ev hx)
     have hsz := run_sizeOf (w := w) (hty e0 j hj)
     refine s_value (v := .s (.own b (k.toNat * j.size))) h hd hN (u := .pointer (some ⟨ρ b, k.toNat * j.size, none⟩)) ?_ (RL.one.2 ⟨hdb, rfl⟩) hK
     unfold execOp; rw [ho]
     have hk : 0 ≤ k ∧ k < (n : Int) := ⟨hc.1, by omega⟩
     simp only [hev, lit_ev h hy, Instr.indexAt, asIntOf, Sem.run_bind, Sem.run_pure, Result.andThen_ok, run_underlying hu]
     rw [if_pos hk]
     simp only [hsz, Sem.run_bind, Result.andThen_ok, Sem.run_pure, addr_add, Nat.zero_add]
    ·cases hs
   ·cases hs
  ·cases hs
 ·rename_i i f sz n ls k hi hx hy
  split at hs
  ·rename_i e0 b0 hel
   split at hs
   ·rename_i j hj
    split at hs
    ·rename_i hc
     injection hs with hs; subst hs
     obtain ⟨hu, _⟩ := (hty t i hi).sl _ _ hel
     obtain ⟨hl, A, c, hev, _, hor⟩ : (Lc.sl sz n ls).R (SepF f ρ (dom st)) w (a.eval x) := RL.one.1 (h.ev hx)
     have hsz := run_sizeOf (w := w) (hty e0 j hj)
     have hle : k.toNat * sz + sz ≤ n * sz := by
      have := Nat.mul_le_mul_right sz hc.2.2
      rw [Nat.succ_mul] at this; exact this
     rcases hor with rfl | ⟨ad, T, cs, rfl, hsp, hS, hB, hlen, hR⟩
     ·have : 0 < n * sz := by have := hc.1.2; omega
      rw [← hl] at this; simp at this
     ·obtain ⟨g, o', sp⟩ := ad
      have hsp : sp = none := hsp
      subst hsp
      refine s_value (v := .s (.im ((ls.drop (k.toNat * sz)).take sz))) h hd hN (u := .pointer (some ⟨g, o' + k.toNat * sz, none⟩)) ?_ (RL.one.2 (ImR.mono (ImR.part hS hB hlen hR _ _ (by omega)) (Keeps.refl _ _) fun _ _ _ _ h => h.1)) hK
      unfold execOp; rw [ho]
      have hk : 0 ≤ k ∧ k < (n : Int) := ⟨hc.2.1, by omega⟩
      simp only [hev, lit_ev h hy, Instr.indexAt, asIntOf, Sem.run_bind, Sem.run_pure, Result.andThen_ok, run_underlying hu]
      rw [if_pos hk]
      simp only [hsz, Sem.run_bind, Result.andThen_ok, Sem.run_pure, addr_add, hc.1.1]
    ·cases hs
   ·cases hs
  ·cases hs
 ·rename_i i b k0 k hi hx hy
  split at hs
  ·rename_i e0 b0 e1 sz ls hel hl
   split at hs
   ·rename_i j hj
    split at hs
    ·rename_i hc
     injection hs with hs; subst hs
     obtain ⟨hu, _⟩ := (hty t i hi).sl _ _ hel
     obtain ⟨hal, hgk, _, _, _, _, g, cap, cur, us, hgh, hob, _⟩ := h.cur hl hc.1.2
     obtain ⟨_, _, hev, _⟩ := RL.one.1 (h.ev hx)
     have hev := (hev hgk.symm).trans hgh
     have hsz := run_sizeOf (w := w) (hty e0 j hj)
     refine s_value (v := .s (.oe b k0 (k.toNat * sz))) h hd hN (u := .pointer (some ⟨g, k.toNat * sz, none⟩)) ?_ (RL.one.2 ⟨hal, by omega, fun _ => ⟨g, hob, rfl⟩, _, _, rfl⟩) hK
     unfold execOp; rw [ho]
     have hk : 0 ≤ k ∧ k < (k0 : Int) := ⟨hc.2.1, by omega⟩
     simp only [hev, lit_ev h hy, Instr.indexAt, asIntOf, Sem.run_bind, Sem.run_pure, Result.andThen_ok, run_underlying hu]
     rw [if_pos hk]
     simp only [hsz, Sem.run_bind, Result.andThen_ok, Sem.run_pure, addr_add, hc.1.1, Nat.zero_add]
    ·cases hs
   ·cases hs
  ·cases hs
 ·rename_i i b k0 o' n0 k hi hx hy
  split at hs
  ·rename_i e0 b0 e1 sz ls hel hl
   split at hs
   ·rename_i j hj
    split at hs
    ·rename_i hc
     injection hs with hs; subst hs
     obtain ⟨hu, _⟩ := (hty t i hi).sl _ _ hel
     obtain ⟨hal, hgk, _, _, _, _, g, cap, cur, us, hgh, hob, _⟩ := h.cur hl hc.1.2
     obtain ⟨_, _, hev, _⟩ := RL.one.1 (h.ev hx)
     obtain ⟨g', c', hg', hev⟩ := hev hgk.symm (by omega)
     rw [hob] at hg'; injection hg' with hg'; subst hg'
     have hsz := run_sizeOf (w := w) (hty e0 j hj)
     refine s_value (v := .s (.oe b k0 (o' + k.toNat * sz))) h hd hN (u := .pointer (some ⟨g, o' + k.toNat * sz, none⟩)) ?_ (RL.one.2 ⟨hal, by omega, fun _ => ⟨g, hob, rfl⟩, _, _, rfl⟩) hK
     unfold execOp; rw [ho]
     have hk : 0 ≤ k ∧ k < (n0 : Int) := ⟨hc.2.1, by omega⟩
     simp only [hev, lit_ev h hy, Instr.indexAt, asIntOf, Sem.run_bind, Sem.run_pure, Result.andThen_ok, run_underlying hu]
     rw [if_pos hk]
     simp only [hsz, Sem.run_bind, Result.andThen_ok, Sem.run_pure, addr_add, hc.1.1]
    ·cases hs
   ·cases hs
  ·cases hs
 ·cases hs
omit hty in
theorem made_flat {z : List Value} : ∀ (n : Nat), (madeCells z.toArray (n * z.length)).toList = (List.replicate n z).flatten := by
 intro n
 induction n with
 | zero => simp [madeCells]
 | succ n ih =>
  rw [List.replicate_succ', List.flatten_append, ← ih]
  unfold madeCells
  rw [Array.toList_map, Array.toList_map, Array.toList_range, Array.toList_range, Nat.succ_mul, List.range_add, List.map_append]
  congr 1
  rw [List.map_map]
  refine List.ext_getElem (by simp) fun i h1 h2 => ?_
  simp only [List.getElem_map, List.getElem_range, Function.comp, List.size_toArray, Nat.mul_add_mod_self_right]
  have hi : i < z.length := by simpa using h1
  rw [Nat.mod_eq_of_lt hi]
  simp [hi]
omit hty in
theorem rep_RL {ls : List Lf} {us : List Value} (h : RL ρ (dom st) w ls us) : ∀ n, RL ρ (dom st) w (List.replicate n ls).flatten (List.replicate n us).flatten := by
 intro n
 induction n with
 | zero => rfl
 | succ n ih => rw [List.replicate_succ, List.replicate_succ, List.flatten_cons, List.flatten_cons]; exact h.append ih
omit hty in
theorem rep_ok {ls : List Lf} (h : ls.all okLf = true) : ∀ n, (List.replicate n ls).flatten.all okLf = true := by
 intro n
 induction n with
 | zero => rfl
 | succ n ih => rw [List.replicate_succ, List.flatten_cons, List.all_append, h, ih]; rfl
theorem s_mk {t : TypeId} {x y : Operand} {e : Ef} (h : Cz F w0 N ρ st a w) (ho : o.op = .makeSlice t x y) (hd : o.dst = some d) (hN : d < N) (hs : stepMk ty t x y d st = some e)
  (hK : ∀ ρ' u w', Cz F w0 N ρ' (e.2.2 ++ st) (a.put o.dst u) w' → K (a.put o.dst u) w') : o.wp P a w K Q := by
 unfold stepMk at hs
 split at hs
 case h_2 => cases hs
 rename_i i n c hi hx hy
 split at hs
 case h_2 => cases hs
 rename_i e0 hel hn
 split at hs
 case h_2 => cases hs
 rename_i j hj
 obtain ⟨hu, _⟩ := (hty t i hi).sl _ _ hel
 have hT := hty e0 j hj
 obtain ⟨ie, hie, hsz, hzz, hby⟩ : ∃ ie, P.info? e0 = some ie ∧ ie.size = j.size ∧ ie.zero = some (zof j) ∧ ie.bytes ≤ 100000 := by
  have h1 := hT.size; have h2 := hT.zero; have h3 := hT.bt
  cases hq : P.info? e0 with
  | none => rw [hq] at h1; cases h1
  | some ie =>
   rw [hq] at h1 h2 h3
   exact ⟨ie, rfl, by simpa using h1, by simpa using h2, by simpa using h3⟩
 have hcells : ∀ m : Nat, madeCells (zof j).cells (m * ie.size) = (List.replicate m j.zv).flatten.toArray := fun m => by
  apply Array.toList_inj.1
  rw [zof_cells hT, hsz, ← hT.len, made_flat]
 split at hs
 ·rename_i hc
  obtain ⟨rfl, c1, c2, c3⟩ := hc
  injection hs with hs; subst hs
  have hrun := run_make (P := P) w t e0 ie (zof j) hu hie hzz .i64 .i64 n n c1 (Int.le_refl _) (by
   have h1 : (ie.bytes : Int) * n ≤ 100000 * 1000 := Int.mul_le_mul (by omega) c2 c1 (by omega)
   omega) (by omega)
  rw [hcells] at hrun
  refine s_new (l := .osl d n.toNat) (T := e0) (cs := (List.replicate n.toNat j.zv).flatten) (u := .slice (some ⟨w.heap.size, 0, none⟩) n.toNat n.toNat) h hd hN hn (fun _ _ _ h e => ⟨h, by rw [e]⟩) ?_ (rep_RL (hT.rz _ _ _) _) (rep_ok c3 _) hK
  unfold execOp; rw [ho]; simp only [lit_ev h hx, lit_ev h hy, Sem.run_bind, hrun, Result.andThen_ok, Sem.run_pure]
 ·split at hs
  case isFalse => cases hs
  rename_i hc
  obtain ⟨⟨rfl, c1, c2, c3⟩, c4⟩ := hc
  injection hs with hs; subst hs
  have hrun := run_make (P := P) w t e0 ie (zof j) hu hie hzz .i64 .i64 0 c (Int.le_refl _) (by omega) (by
   have h1 : (ie.bytes : Int) * c ≤ 100000 * 1000 := Int.mul_le_mul (by omega) c2 (by omega) (by omega)
   omega) (by omega)
  rw [hcells] at hrun
  have hb2 := one_below w (.cells (List.replicate c.toNat j.zv).flatten.toArray e0)
  have hz1 : ∀ u ∈ (List.replicate c.toNat j.zv).flatten, Ok1 u := fun u hu => RL.okAll (rep_RL (ρ := ρ) (st := st) (w := w) (hT.rz _ _ _) c.toNat) (rep_ok c3 _) u hu
  have hnal : ρ.al d = true → False := fun hal => by
   obtain ⟨e', s', l', hl⟩ := h.gm d hal
   rw [hn] at hl; cases hl
  have hlz : (List.replicate c.toNat j.zv).flatten.length = c.toNat * j.size := by
   simp [List.length_flatten, hT.len]
  have hc64 : c.toNat ≤ maxLen := by simp only [maxLen]; omega
  refine op_run (u := .slice (some ⟨w.heap.size, 0, none⟩) 0 c.toNat) (w' := w.alloc (.cells (List.replicate c.toNat j.zv).flatten.toArray e0)) ?_ ?_
  ·unfold execOp; rw [ho]; simp only [lit_ev h hx, lit_ev h hy, Sem.run_bind, hrun, Result.andThen_ok, Sem.run_pure]; rfl
  ·rw [hd]
   rw [hd] at hK
   have hz' := (h.ap (b := d) (e := e0) (row := none) (us := []) hN (by unfold dom; rw [hn]) c4 (.inl rfl) (fun hal => (hnal hal).elim) (grown_below hb2) (fun g hg => by cases hg) (Keeps.below hb2) (fun g hg => by injection hg with hg; subst hg; exact .inr (Nat.le_refl _)) rfl
    ⟨w.heap.size, c.toNat, _, rfl, h.bel.size, ⟨e0, Blk.new w e0 _⟩, Nat.zero_le _, hc64, by simpa using hlz, by simp, by simpa using hz1⟩ rfl)
   exact hK _ _ _ hz'
theorem s_b0 {t : TypeId} {ps : Array (Nat × Operand)} {e : Ef} (h : Cz F w0 N ρ st a w) (ho : o.op = .buildSlice t 0 ps) (hd : o.dst = some d) (hN : d < N) (hs : stepB0 ty t ps.toList d st = some e)
  (hK : ∀ ρ' u w', Cz F w0 N ρ' (e.2.2 ++ st) (a.put o.dst u) w' → K (a.put o.dst u) w') : o.wp P a w K Q := by
 unfold stepB0 at hs
 split at hs
 case h_2 => cases hs
 rename_i i hi hps
 split at hs
 case h_2 => cases hs
 rename_i e0 b0 hel hn
 split at hs
 case h_2 => cases hs
 rename_i j hj
 injection hs with hs; subst hs
 obtain ⟨hu, _⟩ := (hty t i hi).sl _ _ hel
 have hsz := run_sizeOf (w := w) (hty e0 j hj)
 have hps' : ps = #[] := by apply Array.toList_inj.1; simpa using hps
 refine s_new (l := .osl d 0) (T := e0) (ls := []) (cs := []) (u := .slice (some ⟨w.heap.size, 0, none⟩) 0 0) h hd hN hn (fun _ _ _ h e => ⟨h, by rw [e]⟩) ?_ rfl rfl hK
 unfold execOp; rw [ho, hps']
 have h0 : Array.range 0 = #[] := by apply Array.toList_inj.1; simp [Array.toList_range]
 simp [Instr.buildSlice, run_underlying hu, hsz, Instr.fill, newRow, h0]
omit hty in
theorem opt_of {x : Option Operand} {z k : Nat} (h : Cz F w0 N ρ st a w) (hx : optI st x z = some k) : (x = none ∧ k = z) ∨ ∃ (y : Operand) (i : Int), x = some y ∧ a.eval y = .int .i64 i ∧ 0 ≤ i ∧ i.toNat = k := by
 unfold optI at hx
 split at hx
 ·injection hx with hx; exact .inl ⟨rfl, hx.symm⟩
 ·rename_i y
  split at hx
  ·rename_i i hy
   split at hx
   ·rename_i h0
    injection hx with hx
    exact .inr ⟨y, i, rfl, lit_ev h hy, h0, hx⟩
   ·cases hx
  ·cases hx
omit hty in
theorem run_sl {t e0 : TypeId} {x : Operand} {lo hi : Option Operand} {A : Option Addr} {n c l hh sz : Nat} (h : Cz F w0 N ρ st a w) (hu : P.underlying t = some (.slice e0)) (hsz : (sizeOf e0).run P w = .ok sz w) (hev : a.eval x = .slice A n c) (hl : optI st lo 0 = some l) (hhh : optI st hi n = some hh) (hlh : l ≤ hh) (hhn : hh ≤ n) (hnc : n ≤ c) :
  (Instr.sliceAt t (a.eval x) (lo.map a.eval) (hi.map a.eval) none).run P w = .ok (.slice (if c = l then A else A.map (·.add (l * sz))) (hh - l) (c - l)) w := by
 rw [hev]
 unfold Instr.sliceAt
 simp only [Sem.run_bind, run_underlying hu, Result.andThen_ok]
 unfold Instr.slice
 simp only [Sem.run_bind, run_underlying hu, Result.andThen_ok]
 have hb : (Instr.sliceBounds true n c (lo.map a.eval) (hi.map a.eval) none).run P w = .ok (l, hh, c) w := by
  unfold Instr.sliceBounds
  rcases opt_of h hhh with ⟨rfl, rfl⟩ | ⟨y, k, rfl, hk, h0, h1⟩ <;> rcases opt_of h hl with ⟨rfl, rfl⟩ | ⟨y', k', rfl, hk', h0', h1'⟩
  ·simp only [Option.map_none, Sem.run_bind, Sem.run_pure, Result.andThen_ok]
  ·simp only [Option.map_none, Option.map_some, hk', Sem.run_bind, Sem.run_pure, Result.andThen_ok, run_sliceBound w .i64 k' _ _ h0' (show k' ≤ ((hh : Nat) : Int) by omega), h1']
  ·simp only [Option.map_none, Option.map_some, hk, Sem.run_bind, Sem.run_pure, Result.andThen_ok, run_sliceBound w .i64 k c _ h0 (by omega), h1]
  ·simp only [Option.map_some, hk, hk', Sem.run_bind, Sem.run_pure, Result.andThen_ok, run_sliceBound w .i64 k c _ h0 (by omega), h1, run_sliceBound w .i64 k' hh _ h0' (by omega), h1']
 rw [hb]
 simp only [Result.andThen_ok, hsz, Sem.run_pure]
theorem s_sl {t : TypeId} {x : Operand} {lo hi : Option Operand} {e : Ef} (h : Cz F w0 N ρ st a w) (ho : o.op = .slice t x lo hi none) (hd : o.dst = some d) (hN : d < N) (hs : stepSl ty t x lo hi d st = some e)
  (hK : ∀ ρ' u w', Cz F w0 N ρ' (e.2.2 ++ st) (a.put o.dst u) w' → K (a.put o.dst u) w') : o.wp P a w K Q := by
 unfold stepSl at hs
 split at hs
 ·rename_i i f sz n ls hi' hx
  split at hs
  case h_2 => cases hs
  rename_i e0 b0 l hh hel hl hhh
  split at hs
  case h_2 => cases hs
  rename_i j hj
  split at hs
  case isFalse => cases hs
  rename_i hc
  obtain ⟨hjs, hlh, hhn⟩ := hc
  injection hs with hs; subst hs
  obtain ⟨hu, _⟩ := (hty t i hi').sl _ _ hel
  have hsz := run_sizeOf (w := w) (hty e0 j hj)
  rw [hjs] at hsz
  obtain ⟨hlen, A, c, hev, hnc, hor⟩ : (Lc.sl sz n ls).R (SepF f ρ (dom st)) w (a.eval x) := RL.one.1 (h.ev hx)
  have hrun := run_sl h hu hsz hev hl hhh hlh hhn hnc
  have hll : ((ls.drop (l * sz)).take ((hh - l) * sz)).length = (hh - l) * sz := by
   rw [List.length_take, List.length_drop, hlen]
   have : l * sz + (hh - l) * sz ≤ n * sz := by rw [← Nat.add_mul]; exact Nat.mul_le_mul_right _ (by omega)
   omega
  refine s_value (v := .s (.sl f sz (hh - l) ((ls.drop (l * sz)).take ((hh - l) * sz)))) h hd hN (u := .slice (if c = l then A else A.map (·.add (l * sz))) (hh - l) (c - l)) ?_ (RL.one.2 ⟨hll, _, c - l, rfl, by omega, ?_⟩) hK
  ·unfold execOp; rw [ho]; simp only [Sem.run_bind, hrun, Option.map_none, Result.andThen_ok, Sem.run_pure]
  ·by_cases hz : (ls.drop (l * sz)).take ((hh - l) * sz) = []
   ·exact .inl hz
   ·right
    rcases hor with rfl | ⟨ad, T, cs, rfl, hsp, hS, hB, hle, hR⟩
    ·simp at hz
    ·have hpos : 0 < hh - l := by
      rcases Nat.eq_zero_or_pos (hh - l) with h0 | h0
      ·rw [h0] at hz; simp at hz
      ·exact h0
     have hcl : c ≠ l := by omega
     obtain ⟨g, o', sp⟩ := ad
     have hsp : sp = none := hsp
     subst hsp
     refine ⟨⟨g, o' + l * sz, none⟩, T, cs, by rw [if_neg hcl]; simp [addr_add], rfl, hS, hB, ?_, ?_⟩
     ·rw [hll]
      have : l * sz + (hh - l) * sz ≤ n * sz := by rw [← Nat.add_mul]; exact Nat.mul_le_mul_right _ (by omega)
      have hle : o' + ls.length ≤ cs.size := hle
      show o' + l * sz + (hh - l) * sz ≤ cs.size
      omega
     ·have h2 := (hR.drop (l * sz)).take ((hh - l) * sz)
      have e1 : ((cs.toList.drop o').take ls.length).drop (l * sz) = (cs.toList.drop (o' + l * sz)).take (ls.length - l * sz) := by rw [List.drop_take, List.drop_drop]
      have h2' : LcL (SepF f ρ (dom st)) w ((ls.drop (l * sz)).take ((hh - l) * sz)) ((((cs.toList.drop o').take ls.length).drop (l * sz)).take ((hh - l) * sz)) := h2
      rw [e1, List.take_take] at h2'
      rw [hll]
      have : l * sz + (hh - l) * sz ≤ n * sz := by rw [← Nat.add_mul]; exact Nat.mul_le_mul_right _ (by omega)
      rw [Nat.min_eq_left (by omega)] at h2'
      exact h2'
 ·rename_i i b k0 hi' hx
  split at hs
  case h_2 => cases hs
  rename_i e0 b0 l hh e1 sz ls hel hl hhh hlk
  split at hs
  case h_2 => cases hs
  rename_i j hj
  split at hs
  case isFalse => cases hs
  rename_i hc
  obtain ⟨⟨hjs, hll⟩, hlh, hhn⟩ := hc
  injection hs with hs; subst hs
  obtain ⟨hu, _⟩ := (hty t i hi').sl _ _ hel
  have hsz := run_sizeOf (w := w) (hty e0 j hj)
  rw [hjs] at hsz
  obtain ⟨hal, hgk, _, _, _, _, g, cap, cur, us, hgh, hob, _, _, hkc, _⟩ := h.cur hlk hll
  obtain ⟨_, _, hev, _⟩ := RL.one.1 (h.ev hx)
  have hev := (hev hgk.symm).trans hgh
  have hrun := run_sl h hu hsz hev hl hhh hlh hhn hkc
  refine s_value (v := .s (.ov b k0 (l * sz) (hh - l))) h hd hN (u := .slice (if cap = l then some ⟨g, 0, none⟩ else some ⟨g, l * sz, none⟩) (hh - l) (cap - l)) ?_ (RL.one.2 ⟨hal, by omega, fun _ h0 => ⟨g, _, hob, by rw [if_neg (show ¬ cap = l by omega)]⟩, _, _, rfl⟩) hK
  unfold execOp; rw [ho]; simp only [Sem.run_bind, hrun, Option.map_none, Option.map_some, addr_add, Nat.zero_add, Result.andThen_ok, Sem.run_pure]
 ·cases hs
omit hty in
theorem run_eqn {t e0 : TypeId} {ad : Addr} {n c : Nat} (hu : P.underlying t = some (.slice e0)) : (Op.equal t (.slice (some ad) n c) (.slice none 0 0)).run P w = .ok false w := by
 unfold Op.equal
 generalize hn : Op.maxDepth = n
 cases n with
 | zero => cases hn
 | succ n =>
  unfold Op.equalIn
  rw [Sem.run_bind, run_underlying hu, Result.andThen_ok]
  rfl
theorem s_nil {op : BinOp} {t yt : TypeId} {x y : Operand} {f : Bool} {sz n : Nat} {ls : List Lc} {v : AV} {r : Value} (h : Cz F w0 N ρ st a w) (ho : o.op = .binOp op t x y yt) (hd : o.dst = some d) (hN : d < N) (hx : evs st x = some (.v false [.sl f sz n ls])) (hy : evs st y = some v) (ht : slT ty t = true) (hr : nilV op ls v = some r)
  (hK : ∀ ρ' u w', Cz F w0 N ρ' ([(2 * d, .s (.lit r))] ++ st) (a.put o.dst u) w' → K (a.put o.dst u) w') : o.wp P a w K Q := by
 unfold slT at ht
 split at ht
 case h_2 => cases ht
 rename_i i hi
 obtain ⟨p, hp⟩ := Option.isSome_iff_exists.1 ht
 obtain ⟨e0, b0⟩ := p
 obtain ⟨hu, _⟩ := (hty t i hi).sl e0 b0 hp
 obtain ⟨_, A, c, hev, _, hor⟩ : (Lc.sl sz n ls).R (SepF f ρ (dom st)) w (a.eval x) := RL.one.1 (h.ev hx)
 unfold nilV at hr
 split at hr
 case h_2 => cases hr
 rename_i l0 ls0 m0 n0
 split at hr
 case isFalse => cases hr
 rename_i hc
 obtain ⟨rfl, rfl⟩ := hc
 rcases hor with h0 | ⟨ad, T, cs, rfl, _⟩
 ·cases h0
 have hy := lit_ev h hy
 split at hr
 ·injection hr with hr; subst hr
  refine s_value (v := .s (.lit (.bool false))) h hd hN (u := .bool false) ?_ (RL.one.2 rfl) hK
  unfold execOp; rw [ho]
  simp only [hev, hy, eqGuard, binOp, Sem.run_bind, run_eqn hu, Result.andThen_ok, Sem.run_pure]
  rfl
 ·injection hr with hr; subst hr
  refine s_value (v := .s (.lit (.bool true))) h hd hN (u := .bool true) ?_ (RL.one.2 rfl) hK
  unfold execOp; rw [ho]
  simp only [hev, hy, eqGuard, binOp, Sem.run_bind, run_eqn hu, Result.andThen_ok, Sem.run_pure]
  rfl
 ·cases hr
omit hty in
theorem Rl_ok {z : Array Value} (h2 : ∀ u ∈ z.toList, Ok1 u) (n : Nat) : ∀ u ∈ (Builtin.zeroCells z n).toList, Ok1 u := by
 intro u hu
 unfold Builtin.zeroCells at hu
 rw [Array.toList_map, List.mem_map] at hu
 obtain ⟨i, hi, rfl⟩ := hu
 rw [Array.mem_toList_iff, Array.mem_range] at hi
 have h0 : 0 < z.size := by
  rcases Nat.eq_zero_or_pos z.size with h | h
  ·rw [h] at hi; simp at hi
  ·exact h
 have hl : i % z.size < z.size := Nat.mod_lt _ h0
 rw [getElem!_pos z _ hl]
 exact h2 _ (by simp)
omit hty in
theorem gr_new {w1 : World} {base cap n sz : Nat} {e : TypeId} {xs : List Value} {z cells : Array Value} (hb : base ≤ w1.heap.size) (hx : xs.length = n * sz) (hz : z.size = sz) (hc : n ≤ cap) (hm : cap ≤ maxLen) (h1 : ∀ u ∈ xs, Ok1 u) (h2 : ∀ u ∈ z.toList, Ok1 u) (hcs : cells = xs.toArray ++ Builtin.zeroCells z (cap - n)) :
  Gr (w1.alloc (.cells cells e)) base e sz (.slice (some ⟨w1.heap.size, 0, none⟩) n cap) n xs := by
 subst hcs
 refine ⟨w1.heap.size, cap, _, rfl, hb, ⟨e, Blk.new w1 e _⟩, hc, hm, ?_, ?_, fun u hu => ?_⟩
 ·rw [Array.size_append, List.size_toArray, size_zeroCells, hz, hx, ← Nat.add_mul]; congr 1; omega
 ·rw [Array.toList_append, ← hx]; exact List.take_left
 ·rw [Array.toList_append, List.mem_append] at hu
  exact hu.elim (h1 u) (Rl_ok h2 _ u)
omit hty in
theorem run_append_roomT (t ty' e T : TypeId) (i : TypeInfo) (ht : P.underlying t = some (.slice e)) (hi : P.info? e = some i)
  (g sLen sCap : Nat) (cur : Array Value) (hg : w.heap[g]? = some (.cells cur T (0, 0)))
  (ad : Addr) (m c : Nat) (news : List Value) (hl : news.length = m * i.size) (hnews : ∀ j u, news[j]? = some u → w.cell? (ad.add j) = some u) (h1 : ∀ u ∈ news, u.oneCell' = true)
  (hroom : sLen + m ≤ sCap) (hfit : sLen * i.size + news.length ≤ cur.size) :
  (Builtin.append_ #[t, t] ty' #[.slice (some ⟨g, 0, none⟩) sLen sCap, .slice (some ad) m c]).run P w =
   .ok (.slice (some ⟨g, 0, none⟩) (sLen + m) sCap) (w.setRow g (cur.toList.take (sLen * i.size) ++ news ++ cur.toList.drop (sLen * i.size + news.length)).toArray) := by
 have hf := run_firstCells_some (P := P) w i.size m ad m c news hl hnews
 have hst := run_storeCells_at P g (sLen * i.size) T news 0 cur w hg (by simpa using hfit) h1
 simp only [Nat.add_zero] at hst
 simp [Builtin.append_, run_underlying ht, sizeOf, typeInfo, hi, Builtin.lenOf, hroom, hf, Addr.add_lit, hst]
theorem s_ap {c : Call} {t t' : TypeId} {x y : AV} {rd : List Nat} {e : Ef} (h : Cz F w0 N ρ st a w) (ho : o.op = .call c) (hcb : c.callee = .builtin .append) (hts : c.argTypes.toList = [t, t']) (hv : evl st c.args.toList = some [x, y]) (hd : o.dst = some d) (hN : d < N) (hs : stepAp ty t t' x y rd d st = some e) (hp : e.1)
  (hK : ∀ ρ' u w', Cz F w0 N ρ' (e.2.2 ++ st) (a.put o.dst u) w' → K (a.put o.dst u) w') : o.wp P a w K Q := by
 have hmap : ∀ us, c.args.toList.map a.eval = us → c.args.map a.eval = us.toArray := fun us hu => by apply Array.toList_inj.1; simpa using hu
 unfold stepAp at hs
 split at hs
 case h_2 => cases hs
 rename_i i m ns rk hi hyy
 split at hs
 case h_2 => cases hs
 rename_i e0 hel
 split at hs
 case h_2 => cases hs
 rename_i j hj
 split at hs
 case isFalse => cases hs
 rename_i hc
 obtain ⟨⟨rfl, hjz, hokn⟩, hln, hm, hm1, hjs⟩ := hc
 obtain ⟨hu, _⟩ := (hty t i hi).sl e0 false hel
 have hT := hty e0 j hj
 obtain ⟨ux, us, he, hrx, uy, us2, he2, hry, hnil⟩ := RA.of h hv
 have hnil : us2 = [] := hnil
 subst hnil; subst he2
 obtain ⟨ad, cc, news, rfl, hcell, hRn⟩ : ∃ (ad : Addr) (cc : Nat) (news : List Value), uy = .slice (some ad) m cc ∧ (∀ k v, news[k]? = some v → w.cell? (ad.add k) = some v) ∧ RL ρ (dom st) w ns news := by
  unfold apY at hyy
  split at hyy
  ·rename_i b' m'
   split at hyy
   ·rename_i g0 ns' hlb
    injection hyy with hyy; injection hyy with e1 hyy; injection hyy with e2 e3
    subst e1; subst e2
    obtain ⟨g1, ns1, T, cs, e1, hB, hRn, _, _⟩ := h.mv hlb
    injection e1 with _ e1; subst e1
    obtain ⟨hdb, hy⟩ : dom st b' = true ∧ uy = .slice (some ⟨ρ b', 0, none⟩) m' m' := RL.one.1 hry
    exact ⟨_, _, cs.toList, hy, fun k v hk => by rw [addr_add, Blk.cell hB, Nat.zero_add, ← Array.getElem?_toList]; exact hk, hRn⟩
   ·cases hyy
  ·rename_i f' sz' m' ls'
   injection hyy with hyy; injection hyy with e1 hyy; injection hyy with e2 e3
   subst e1; subst e2
   obtain ⟨hlen, A, c, hev, hnc, hor⟩ : (Lc.sl sz' m' ls').R (SepF f' ρ (dom st)) w uy := RL.one.1 hry
   rcases hor with rfl | ⟨ad, T, cs, rfl, hsp, hS, hB, hle, hR⟩
   ·exfalso
    rw [List.map_nil] at hln
    have : 0 < m' * j.size := Nat.mul_pos hm hjs
    simp at hln; omega
   ·obtain ⟨g, o', sp⟩ := ad
    have hsp : sp = none := hsp
    subst hsp
    have hR' : LcL (Sep ρ (dom st)) w ls' ((cs.toList.drop o').take ls'.length) := LcL.mono (Keeps.refl _ _) (fun _ _ _ _ h => h.1) _ _ hR
    refine ⟨_, _, _, hev, fun k v hk => ?_, hR'.up⟩
    rw [List.getElem?_take] at hk
    split at hk
    ·rw [List.getElem?_drop] at hk
     rw [addr_add, Wb.cell hB, ← Array.getElem?_toList]; exact hk
    ·cases hk
  ·cases hyy
 obtain ⟨ie, hie, hsz, hzz, hby⟩ : ∃ ie, P.info? e0 = some ie ∧ ie.size = j.size ∧ ie.zero = some (zof j) ∧ ie.bytes ≤ 100000 := by
  have h1 := hT.size; have h2 := hT.zero; have h3 := hT.bt
  cases hq : P.info? e0 with
  | none => rw [hq] at h1; cases h1
  | some ie =>
   rw [hq] at h1 h2 h3
   exact ⟨ie, rfl, by simpa using h1, by simpa using h2, by simpa using h3⟩
 have hlen : news.length = m * ie.size := by rw [hRn.len, hln, hsz]
 have hok : ∀ u ∈ news, Ok1 u := hRn.okAll hokn
 have hz0 : (zof j).cells.size = j.size := by rw [zof_cells hT, List.size_toArray, hT.len]
 have hz1 : ∀ u ∈ (zof j).cells.toList, Ok1 u := by
  rw [zof_cells hT]
  exact (hT.rz ρ (dom st) w).okAll hjz
 have hml : m ≤ maxLen := by simp only [maxLen]; omega
 have hta : c.argTypes = #[t, t] := by apply Array.toList_inj.1; simpa using hts
 split at hs
 ·rename_i m0 n0
  split at hs
  case isFalse => cases hs
  rename_i hc
  obtain ⟨rfl, rfl⟩ := hc
  split at hs
  case h_2 => cases hs
  rename_i hn
  injection hs with hs; subst hs
  have hx : ux = .slice none 0 0 := RL.one.1 hrx
  subst hx
  have hrun := run_append_nil (P := P) (w := w) t o.type e0 ie (zof j) hu hie hzz ad m cc news hlen hcell hm (by omega) (by
   have : m * ie.bytes ≤ 100000 * 100000 := Nat.mul_le_mul hm1 hby
   omega)
  refine op_run (w' := _) (u := _) (by
   unfold execOp; rw [ho]
   simp only [resolve, hcb, hmap _ he, hta, Sem.run_bind, Sem.run_pure, Result.andThen_ok, invoke, builtin, hrun]
   rfl) (hK (ρ.up d (.slice (some ⟨w.heap.size, 0, none⟩) m (grownCap w m 0 e0)) m) _ _ ?_)
  rw [hd]
  have hb2 : Below w.heap.size w (w.drew.alloc (.cells (news.toArray ++ Builtin.zeroCells (zof j).cells (grownCap w m 0 e0 - m)) e0)) := below_step (bdr (Below.refl _ _)) (one_below _ _)
  refine h.ap (row := none) hN ?_ hjs (.inr hm) (fun hal => ?_) (grown_below hb2) (fun g hg => by cases hg) (Keeps.below hb2) (fun g hg => ?_) hokn (gr_new (w1 := w.drew) h.bel.size (by rw [hlen, hsz]) hz0 (grownCap_ge _ _ _ _) (grownCap_le_maxLen _ _ _ _ hml) hok hz1 rfl) hRn
  ·exact (show dom st d = false by unfold dom; rw [hn])
  ·obtain ⟨_, _, _, hl⟩ := h.gm d hal; rw [hn] at hl; cases hl
  ·injection hg with hg; subst hg; exact .inr (Nat.le_refl _)
 ·rename_i b0 n0
  split at hs
  case isFalse => cases hs
  rename_i hc
  subst hc
  split at hs
  case h_2 => cases hs
  rename_i hn
  injection hs with hs; subst hs
  obtain ⟨hdb0, hx⟩ : dom st b0 = true ∧ ux = .slice (some ⟨ρ b0, 0, none⟩) 0 0 := RL.one.1 hrx
  subst hx
  have hrun := run_append_grow (P := P) (w := w) t o.type e0 ie (zof j) hu hie hzz ⟨ρ b0, 0, none⟩ 0 0 [] (by simp) (fun i v hi => by simp at hi) ad m cc news hlen hcell (by omega) (by omega) (growslice_fits (by omega) (by
   have : (0 + m) * ie.bytes ≤ 100000 * 100000 := Nat.mul_le_mul (by omega) hby
   omega))
  simp only [Nat.zero_add, Array.empty_append] at hrun
  refine op_run (w' := _) (u := _) (by
   unfold execOp; rw [ho]
   simp only [resolve, hcb, hmap _ he, hta, Sem.run_bind, Sem.run_pure, Result.andThen_ok, invoke, builtin, hrun]
   rfl) (hK (ρ.up d (.slice (some ⟨w.heap.size, 0, none⟩) m (grownCap w m 0 e0)) m) _ _ ?_)
  rw [hd]
  have hb2 : Below w.heap.size w (w.drew.alloc (.cells (news.toArray ++ Builtin.zeroCells (zof j).cells (grownCap w m 0 e0 - m)) e0)) := below_step (bdr (Below.refl _ _)) (one_below _ _)
  refine h.ap (row := none) hN ?_ hjs (.inr hm) (fun hal => ?_) (grown_below hb2) (fun g hg => by cases hg) (Keeps.below hb2) (fun g hg => ?_) hokn (gr_new (w1 := w.drew) h.bel.size (by rw [hlen, hsz]) hz0 (grownCap_ge _ _ _ _) (grownCap_le_maxLen _ _ _ _ hml) hok hz1 rfl) hRn
  ·exact (show dom st d = false by unfold dom; rw [hn])
  ·obtain ⟨_, _, _, hl⟩ := h.gm d hal; rw [hn] at hl; cases hl
  ·injection hg with hg; subst hg; exact .inr (Nat.le_refl _)
 ·rename_i b k
  split at hs
  case h_2 => cases hs
  rename_i e1 s1 ls hlo
  split at hs
  case isFalse => cases hs
  rename_i hc
  obtain ⟨rfl, rfl, hll⟩ := hc
  injection hs with hs; subst hs
  have hp : k ≤ 100000 := hp
  obtain ⟨_, _, hux, _⟩ : ρ.al b = true ∧ k ≤ ρ.gv b ∧ (k = ρ.gv b → ux = ρ.gh b) ∧ _ := RL.one.1 hrx
  obtain ⟨hal, hgv, _, hokl, us, hG, hRl⟩ := h.gc b _ _ ls hlo
  have hul := hG.len
  have hgk : k = ρ.gv b := by
   have : k * j.size = ρ.gv b * j.size := by rw [← hll, ← hRl.len, hul]
   exact Nat.eq_of_mul_eq_mul_right hjs this
  have hux := hux hgk
  subst hux
  have hdmb : dom st b = false := by unfold dom; rw [hlo]
  have hR2 : RL ρ (dom st) w (ls ++ ns) (us ++ news) := hRl.append hRn
  have hok2 : (ls ++ ns).all okLf = true := by rw [List.all_append, hokl, hokn]; rfl
  have hokU : ∀ u ∈ us, Ok1 u := hRl.okAll hokl
  have hl2 : (us ++ news).length = (k + m) * j.size := by rw [List.length_append, hul, hlen, hsz, Nat.add_mul, hgk]
  obtain ⟨g, cap, cur, egh, hbg, ⟨T0, hBg⟩, hkc, hcm, hcs, htk, hcok⟩ := hG
  rw [← hgk] at egh hkc htk
  have hml2 : k + m ≤ maxLen := by simp only [maxLen]; omega
  have hown : (ρ.gh b).ownBlock = some g := by rw [egh]; rfl
  by_cases hroom : k + m ≤ cap
  ·have hfit : k * ie.size + news.length ≤ cur.size := by rw [hlen, hcs, hsz, ← Nat.add_mul]; exact Nat.mul_le_mul_right _ hroom
   have hrun := run_append_roomT (P := P) (w := w) t o.type _ T0 ie hu hie g k cap cur hBg ad m cc news hlen hcell (fun u hu => (hok u hu).1) hroom hfit
   rw [hsz] at hrun
   refine op_run (w' := _) (u := _) (by
    unfold execOp; rw [ho]
    simp only [resolve, hcb, hmap _ he, hta, egh, Sem.run_bind, Sem.run_pure, Result.andThen_ok, invoke, builtin, hrun]
    rfl) (hK (ρ.up b (.slice (some ⟨g, 0, none⟩) (k + m) cap) (k + m)) _ _ ?_)
   rw [hd]
   refine h.ap (row := some g) (us := us ++ news) hN hdmb hjs (.inr (by omega)) (fun _ => by omega) ⟨by simp, by simp, by simp, by simp, fun x _ hx => setRow_other w _ _ _ (fun e => hx (by rw [e]))⟩ (fun g' hg' => by injection hg' with hg'; subst hg'; exact ⟨hal, hown⟩) (Keeps.setRow hBg (fun u hu => (hcok u hu).2) fun hS => hS.2 b hal hown) (fun g' hg' => .inl hg') hok2 ?_ hR2
   refine ⟨g, cap, _, rfl, hbg, ⟨T0, setRow_heap w _ cur _ _ _ hBg⟩, hroom, hcm, ?_, ?_, fun u hu => ?_⟩
   ·rw [hsz] at hfit
    simp only [List.size_toArray, List.length_append, List.length_take, List.length_drop, Array.length_toList]
    omega
   ·rw [htk, ← hl2]; exact List.take_left
   ·rcases List.mem_append.1 hu with hu | hu
    ·rcases List.mem_append.1 hu with hu | hu
     ·exact hcok u (List.mem_of_mem_take hu)
     ·exact hok u hu
    ·exact hcok u (List.mem_of_mem_drop hu)
  ·have holds : ∀ i v, us[i]? = some v → w.cell? ((⟨g, 0, none⟩ : Addr).add i) = some v := fun i v hi => by
    rw [addr_add, Blk.cell hBg, Nat.zero_add, ← Array.getElem?_toList]
    rw [← htk, List.getElem?_take] at hi
    split at hi
    ·exact hi
    ·cases hi
   have hrun := run_append_grow (P := P) (w := w) t o.type _ ie (zof j) hu hie hzz ⟨g, 0, none⟩ k cap us (by rw [hul, hsz, hgk]) holds ad m cc news hlen hcell (by omega) (by omega) (growslice_fits (by omega) (by
    have : (k + m) * ie.bytes ≤ 200000 * 100000 := Nat.mul_le_mul (by omega) hby
    omega))
   refine op_run (w' := _) (u := _) (by
    unfold execOp; rw [ho]
    simp only [resolve, hcb, hmap _ he, hta, egh, Sem.run_bind, Sem.run_pure, Result.andThen_ok, invoke, builtin, hrun]
    rfl) (hK (ρ.up b (.slice (some ⟨w.heap.size, 0, none⟩) (k + m) (grownCap w (k + m) cap e1)) (k + m)) _ _ ?_)
   rw [hd]
   have hb2 : Below w.heap.size w (w.drew.alloc (.cells (us.toArray ++ news.toArray ++ Builtin.zeroCells (zof j).cells (grownCap w (k + m) cap e1 - (k + m))) e1)) := below_step (bdr (Below.refl _ _)) (one_below _ _)
   refine h.ap (row := none) (us := us ++ news) hN hdmb hjs (.inr (by omega)) (fun _ => by omega) (grown_below hb2) (fun g hg => by cases hg) (Keeps.below hb2) (fun g' hg' => ?_) hok2 (gr_new (w1 := w.drew) h.bel.size hl2 hz0 (grownCap_ge _ _ _ _) (grownCap_le_maxLen _ _ _ _ hml2) (fun u hu => (List.mem_append.1 hu).elim (hokU u) (hok u)) hz1 (by simp)) hR2
   injection hg' with hg'; subst hg'; exact .inr (Nat.le_refl _)
 ·cases hs
theorem s_bi {c : Call} {b : Builtin} {e : Ef} (h : Cz F w0 N ρ st a w) (ho : o.op = .call c) (hcb : c.callee = .builtin b) (hd : o.dst = some d) (hN : d < N) (hs : stepBi ty b c.argTypes.toList c.args.toList d st = some e) (hp : e.1)
  (hK : ∀ ρ' u w', Cz F w0 N ρ' (e.2.2 ++ st) (a.put o.dst u) w' → K (a.put o.dst u) w') : o.wp P a w K Q := by
 have hmap : ∀ us, c.args.toList.map a.eval = us → c.args.map a.eval = us.toArray := fun us hu => by apply Array.toList_inj.1; simpa using hu
 unfold stepBi at hs
 split at hs
 ·rename_i t v hts hv
  split at hs
  ·rename_i i n hi hn
   split at hs
   ·rename_i hel
    injection hs with hs; subst hs
    obtain ⟨p, hp⟩ := Option.isSome_iff_exists.1 hel
    obtain ⟨e0, b0⟩ := p
    obtain ⟨hu, _⟩ := (hty t i hi).sl e0 b0 hp
    obtain ⟨u, us, he, hr, hnil⟩ := RA.of h hv
    have hnil : us = [] := hnil
    subst hnil
    obtain ⟨A, m, hus, hm⟩ : ∃ A m, u = .slice A n m ∧ True := by
     unfold lenOf at hn
     split at hn
     ·injection hn with hn; subst hn
      obtain ⟨A, n', c', h1, h2, _⟩ := RL.one.1 hr
      exact ⟨A, c', by rw [h1, h2.1.1], trivial⟩
     ·injection hn with hn; subst hn
      obtain ⟨A, n', c', h1, h2⟩ := RL.one.1 hr
      exact ⟨A, c', by rw [h1, show (digs B32 _).length = n' from h2.1], trivial⟩
     ·injection hn with hn; subst hn
      obtain ⟨_, h1⟩ := RL.one.1 hr
      exact ⟨_, _, h1, trivial⟩
     ·injection hn with hn; subst hn
      obtain ⟨_, A, c', h1, _⟩ := RL.one.1 hr
      exact ⟨A, c', h1, trivial⟩
     ·injection hn with hn; subst hn
      exact ⟨_, _, RL.one.1 hr, trivial⟩
     ·injection hn with hn; subst hn
      obtain ⟨_, _, _, A, c', h1⟩ := RL.one.1 hr
      exact ⟨A, c', h1, trivial⟩
     ·injection hn with hn; subst hn
      obtain ⟨_, _, _, A, c', h1⟩ := RL.one.1 hr
      exact ⟨A, c', h1, trivial⟩
     ·cases hn
    refine s_value (v := .s (.lit (.int .i64 n))) h hd hN (u := .int .i64 n) ?_ (RL.one.2 rfl) hK
    unfold execOp; rw [ho]
    have hta : c.argTypes = #[t] := by apply Array.toList_inj.1; simpa using hts
    simp only [resolve, hcb, hmap _ he, hta, hus, Sem.run_bind, Sem.run_pure, Result.andThen_ok, invoke, builtin, Builtin.len_, List.getElem?_toArray, List.getElem?_cons_zero, run_underlying hu, goInt]
   ·cases hs
  ·cases hs
 ·rename_i t t2 m0 n0 l hts hv
  split at hs
  ·rename_i i hi
   split at hs
   ·rename_i hc
    obtain ⟨⟨rfl, rfl, rfl⟩, hel⟩ := hc
    injection hs with hs; subst hs
    obtain ⟨e0, hp⟩ : ∃ e0, i.el = some (e0, true) := by
     cases hp : i.el with
     | none => rw [hp] at hel; cases hel
     | some p =>
      obtain ⟨e0, b0⟩ := p
      rw [hp] at hel
      have hb : b0 = true := hel
      exact ⟨e0, by rw [hb]⟩
    obtain ⟨hu, hx⟩ := (hty t i hi).sl e0 true hp
    obtain ⟨ie, z, hie, hsz, hzz, hby⟩ := hx rfl
    obtain ⟨u, us, he, hr, u2, us2, he2, hr2, hnil⟩ := RA.of h hv
    have hnil : us2 = [] := hnil
    have hr : u = .slice none 0 0 := RL.one.1 hr
    subst hnil; subst he2; subst hr
    obtain ⟨A, n, cc, hA1, hA2, hn⟩ := RL.one.1 hr2
    subst hA1
    have hta : c.argTypes = #[t, t] := by apply Array.toList_inj.1; simpa using hts
    rcases Nat.eq_zero_or_pos n with h0 | h0
    ·subst h0
     have hl0 : l = [] := List.eq_nil_of_length_eq_zero hA2.1.1
     subst hl0
     have hrun : (Builtin.append_ #[t, t] o.type #[.slice none 0 0, .slice A 0 cc]).run P w = .ok (.slice none 0 0) w := by
      cases A with
      | none => simp [Builtin.append_, run_underlying hu, sizeOf, typeInfo, hie, Builtin.lenOf, Builtin.firstCells]
      | some ad => simp [Builtin.append_, run_underlying hu, sizeOf, typeInfo, hie, Builtin.lenOf, Builtin.firstCells, loadCells, loadCellsFrom]
     refine s_value (v := .s (.ws [])) h hd hN (u := .slice none 0 0) ?_ (RL.one.2 ⟨none, 0, 0, rfl, ⟨Rd.none_, Small.nil⟩, by omega⟩) hK
     unfold execOp; rw [ho]
     simp only [resolve, hcb, hmap _ he, hta, Sem.run_bind, Sem.run_pure, Result.andThen_ok, invoke, builtin, hrun]
    ·obtain ⟨ad, rfl, _, _, hcell⟩ := hA2.1.2.2 h0
     have hln := hA2.1.1
     have hrun := run_append_nil (P := P) (w := w) t o.type e0 ie z hu hie hzz ad n cc (ints .u64 l) (by rw [ints_length, hsz]; omega) (fun j v hv => by
      rw [ints_get] at hv
      cases hq : l[j]? with
      | none => rw [hq] at hv; cases hv
      | some x => rw [hq] at hv; injection hv with hv; subst hv; exact hcell j x hq) h0 (by omega) (by
       have : n * ie.bytes ≤ n * 8 := Nat.mul_le_mul_left _ hby
       omega)
     have hb2 : Below w.heap.size w (w.drew.alloc (.cells ((ints .u64 l).toArray ++ Builtin.zeroCells z.cells (grownCap w n 0 e0 - n)) e0)) := below_step (bdr (Below.refl _ _)) (one_below _ _)
     refine op_run (w' := w.drew.alloc (.cells ((ints .u64 l).toArray ++ Builtin.zeroCells z.cells (grownCap w n 0 e0 - n)) e0)) (u := .slice (some ⟨w.heap.size, 0, none⟩) n (grownCap w n 0 e0)) ?_ (hK ρ _ _ ?_)
     ·unfold execOp; rw [ho]
      simp only [resolve, hcb, hmap _ he, hta, Sem.run_bind, Sem.run_pure, Result.andThen_ok, invoke, builtin, hrun]
     ·rw [hd]
      refine h.val hb2 hN (RL.one.2 ⟨some ⟨w.heap.size, 0, none⟩, n, grownCap w n 0 e0, rfl, ⟨⟨hln, grownCap_ge _ _ _ _, fun _ => ⟨_, rfl, Nat.zero_le _, by simp, fun j x hj => ?_⟩⟩, hA2.2⟩, hn⟩)
      have hB : Blk (w.drew.alloc (.cells ((ints .u64 l).toArray ++ Builtin.zeroCells z.cells (grownCap w n 0 e0 - n)) e0)) w.heap.size e0 ((ints .u64 l).toArray ++ Builtin.zeroCells z.cells (grownCap w n 0 e0 - n)) := Blk.new w.drew e0 _
      rw [addr_add, Blk.cell hB, Nat.zero_add]
      have hjl : j < l.length := by
       rcases Nat.lt_or_ge j l.length with h | h
       ·exact h
       ·rw [List.getElem?_eq_none h] at hj; cases hj
      rw [Array.getElem?_append_left (by simpa [ints_length] using hjl)]
      simp [ints, hj]
   ·cases hs
  ·cases hs
 ·rename_i t t' x y hts hv
  exact s_ap hty h ho hcb hts hv hd hN hs hp hK
 ·rename_i x y hv
  injection hs with hs; subst hs
  obtain ⟨u, us, he, hr, u2, us2, he2, hr2, hnil⟩ := RA.of h hv
  have hnil : us2 = [] := hnil
  have hr : u = .int .i64 x := RL.one.1 hr
  have hr2 : u2 = .int .i64 y := RL.one.1 hr2
  subst hnil; subst he2; subst hr; subst hr2
  refine s_value (v := .s (.lit (.int .i64 (max x y)))) h hd hN (u := .int .i64 (max x y)) ?_ (RL.one.2 rfl) hK
  unfold execOp; rw [ho]
  simp only [resolve, hcb, hmap _ he, Sem.run_bind, Sem.run_pure, Result.andThen_ok, invoke, builtin, Builtin.max_, List.foldlM_cons, List.foldlM_nil, Builtin.max2]
  congr 3
  omega
 ·rename_i x y hv
  injection hs with hs; subst hs
  obtain ⟨u, us, he, hr, u2, us2, he2, hr2, hnil⟩ := RA.of h hv
  have hnil : us2 = [] := hnil
  have hr : u = .int .i64 x := RL.one.1 hr
  have hr2 : u2 = .int .i64 y := RL.one.1 hr2
  subst hnil; subst he2; subst hr; subst hr2
  refine s_value (v := .s (.lit (.int .i64 (min x y)))) h hd hN (u := .int .i64 (min x y)) ?_ (RL.one.2 rfl) hK
  unfold execOp; rw [ho]
  simp only [resolve, hcb, hmap _ he, Sem.run_bind, Sem.run_pure, Result.andThen_ok, invoke, builtin, Builtin.min_, List.foldlM_cons, List.foldlM_nil, Builtin.min2]
  congr 3
  omega
 ·cases hs
theorem s_call {O : Orac} (hO : OrOK P O F w0) {c : Call} {e : Ef} (h : Cz F w0 N ρ st a w) (ho : o.op = .call c) (hd : o.dst = some d) (hN : d < N) (hs : stepCall ty O c d st = some e) (hp : e.1)
  (hK : ∀ ρ' u w', Cz F w0 N ρ' (e.2.2 ++ st) (a.put o.dst u) w' → K (a.put o.dst u) w') : o.wp P a w K Q := by
 unfold stepCall at hs
 split at hs
 ·rename_i g hg
  split at hs
  ·rename_i f caps vs hx hv
   split at hs
   ·rename_i pre rds ups hq
    injection hs with hs; subst hs
    obtain ⟨c1, c2⟩ : (∀ b ∈ caps, dom st b = true) ∧ a.eval g = .func (.func f) #[] (caps.map fun b => Value.pointer (some ⟨ρ b, 0, none⟩)).toArray := RL.one.1 (h.ev hx)
    have hA := (RA.of h hv).append (RA.owns (ρ := ρ) (w := w) c1)
    have hC := hO.sound _ _ _ _ _ hq hp N ρ a w _ h hN hA
    have hE := hO.enters _ _ _ _ _ hq
    have hrun : (execOp a.eval o).run P w = .ok (.enter f (c.args.toList.map a.eval ++ caps.map fun b => Value.pointer (some ⟨ρ b, 0, none⟩)).toArray) w := by
     unfold execOp; rw [ho]
     simp only [resolve, hg, c2, Deferred.ofValue, Sem.run_bind, Sem.run_pure, Result.andThen_ok, invoke, hE]
     congr 2
     apply Array.toList_inj.1
     simp
    unfold Oper.wp
    rw [hrun, Oper.upon_enter]
    refine hC.mono ?_
    rintro en w' ⟨u, ρ', rfl, hz⟩
    rw [← hd] at hz
    exact hK ρ' u w' hz
   ·cases hs
  ·rename_i f fs caps vs hx hv
   split at hs
   case isFalse => cases hs
   rename_i hfs
   split at hs
   ·rename_i pre rds ups hq
    injection hs with hs; subst hs
    have hfs' : fs = #[] := by apply Array.toList_inj.1; simpa using hfs
    subst hfs'
    have c2 : a.eval g = .func (.func f) #[] caps := RL.one.1 (h.ev hx)
    have hA := (RA.of h hv).append (RA.lits (ρ := ρ) (D := dom st) (w := w) caps.toList)
    have hC := hO.sound _ _ _ _ _ hq hp N ρ a w _ h hN hA
    have hE := hO.enters _ _ _ _ _ hq
    have hrun : (execOp a.eval o).run P w = .ok (.enter f (c.args.toList.map a.eval ++ caps.toList).toArray) w := by
     unfold execOp; rw [ho]
     simp only [resolve, hg, c2, Deferred.ofValue, Sem.run_bind, Sem.run_pure, Result.andThen_ok, invoke, hE]
     congr 2
     apply Array.toList_inj.1
     simp
    unfold Oper.wp
    rw [hrun, Oper.upon_enter]
    refine hC.mono ?_
    rintro en w' ⟨u, ρ', rfl, hz⟩
    rw [← hd] at hz
    exact hK ρ' u w' hz
   ·cases hs
  ·cases hs
 ·rename_i b hcb
  exact s_bi hty h ho hcb hd hN hs hp hK
 ·cases hs
theorem step_sound {O : Orac} (hO : OrOK P O F w0) {e : Ef} (h : Cz F w0 N ρ st a w) (hs : stepOp ty O o.op o.dst st = some e) (hp : e.1) (hN : ∀ d, o.dst = some d → d < N)
  (hK : ∀ ρ' u w', Cz F w0 N ρ' (e.2.2 ++ st) (a.put o.dst u) w' → K (a.put o.dst u) w') : o.wp P a w K Q := by
 unfold stepOp at hs
 split at hs
 ·rename_i x d ho hd
  split at hs
  ·rename_i v hv
   injection hs with hs; subst hs
   exact s_value h hd (hN d hd) (by unfold execOp; rw [ho]; rfl) (h.ev hv) hK
  ·cases hs
 ·rename_i x d ho hd
  split at hs
  ·rename_i v hv
   injection hs with hs; subst hs
   exact s_value h hd (hN d hd) (by unfold execOp; rw [ho]; rfl) (h.ev hv) hK
  ·cases hs
 ·rename_i t d ho hd
  split at hs
  ·rename_i i hi hn
   split at hs
   ·rename_i hok
    injection hs with hs; subst hs
    have hT := hty t i hi
    refine s_new (l := .own d 0) (u := .pointer (some ⟨w.heap.size, 0, none⟩)) (T := t) (cs := i.zv) h hd (hN d hd) hn (fun _ _ _ h e => ⟨h, by rw [e]⟩) ?_ (hT.rz _ _ _) hok hK
    unfold execOp; rw [ho]; simp only [Sem.run_bind, run_alloc hT, Result.andThen_ok, Sem.run_pure]
   ·cases hs
  ·cases hs
 ·rename_i t x d ho hd
  split at hs
  ·rename_i g ls hx hn
   split at hs
   ·rename_i hok
    injection hs with hs; subst hs
    obtain ⟨us, hu, hr⟩ := VR.cells (h.ev hx) (.inr hok)
    refine s_new (l := .own d 0) (u := .pointer (some ⟨w.heap.size, 0, none⟩)) (T := t) (cs := us) h hd (hN d hd) hn (fun _ _ _ h e => ⟨h, by rw [e]⟩) ?_ hr hok hK
    unfold execOp; rw [ho]; simp only [Instr.box, newVar, hu, newRow]; go_simp
   ·cases hs
  ·cases hs
 ·rename_i t ps d ho hd
  split at hs
  ·rename_i i vs hi hv
   split at hs
   ·rename_i hg
    split at hs
    ·rename_i ls hf
     injection hs with hs; subst hs
     exact s_build hty h ho hd (hN d hd) hi hv hg hf hK
    ·cases hs
   ·cases hs
  ·cases hs
 ·rename_i t x d ho hd
  exact s_load hty h ho hd (hN d hd) hs hK
 ·rename_i t x y ho hd
  exact s_store hty h ho hd hs hK
 ·rename_i t x k d ho hd
  split at hs
  ·rename_i b off i hx hi
   split at hs
   ·rename_i p hq
    injection hs with hs; subst hs
    obtain ⟨o1, o2⟩ := own_ev h hx
    have hrun := run_field (w := w) (hty t i hi) hq (ρ b) off
    refine s_value (v := .s (.own b (off + p.1))) h hd (hN d hd) (u := .pointer (some ⟨ρ b, off + p.1, none⟩)) ?_ (RL.one.2 ⟨o1, rfl⟩) hK
    unfold execOp; rw [ho]; simp only [o2, Sem.run_bind, hrun, Result.andThen_ok, Sem.run_pure]
   ·cases hs
  ·rename_i ls i hx hi
   split at hs
   ·rename_i p hq
    split at hs
    ·rename_i hle
     injection hs with hs; subst hs
     obtain ⟨g, o', T, cs, hev, hS, hB, hlen, hR⟩ : ImR (Sep ρ (dom st)) w ls (a.eval x) := RL.one.1 (h.ev hx)
     have hrun := run_field (w := w) (hty t i hi) hq g o'
     refine s_value (v := .s (.im ((ls.drop p.1).take p.2.1))) h hd (hN d hd) (u := .pointer (some ⟨g, o' + p.1, none⟩)) ?_ (RL.one.2 (ImR.part hS hB hlen hR _ _ hle)) hK
     unfold execOp; rw [ho]; simp only [hev, Sem.run_bind, hrun, Result.andThen_ok, Sem.run_pure]
    ·cases hs
   ·cases hs
  ·rename_i b k0 o' i hx hi
   split at hs
   ·rename_i p hq
    injection hs with hs; subst hs
    obtain ⟨hal, hk, hev, g, o2, hA⟩ := RL.one.1 (h.ev hx)
    have hrun := run_field (w := w) (hty t i hi) hq g o2
    refine s_value (v := .s (.oe b k0 (o' + p.1))) h hd (hN d hd) (u := .pointer (some ⟨g, o2 + p.1, none⟩)) ?_ (RL.one.2 ⟨hal, hk, fun e => ?_, _, _, rfl⟩) hK
    ·unfold execOp; rw [ho]; simp only [hA, Sem.run_bind, hrun, Result.andThen_ok, Sem.run_pure]
    ·obtain ⟨g3, h1, h2⟩ := hev e
     rw [hA] at h2; injection h2 with h2; injection h2 with h2; injection h2 with h3 h4 _
     subst h3; subst h4
     exact ⟨g, h1, rfl⟩
   ·cases hs
  ·cases hs
 ·rename_i t x k d ho hd
  exact s_field hty h ho hd (hN d hd) hs hK
 ·rename_i x k d ho hd
  split at hs
  ·rename_i ps hx
   split at hs
   ·rename_i p hq
    injection hs with hs; subst hs
    obtain ⟨us, hev, hr⟩ : ∃ us : List Value, a.eval x = .tuple us.toArray ∧ RT ρ (dom st) w ps us := h.ev hx
    obtain ⟨u, hu, hv⟩ := hr.get hq
    refine s_value (v := .v p.1 p.2) h hd (hN d hd) (u := u) ?_ hv hK
    unfold execOp; rw [ho]
    simp only [hev, Sem.run_bind, Instr.extract, List.getElem?_toArray, hu, Result.andThen_ok, Sem.run_pure]
   ·cases hs
  ·cases hs
 ·rename_i op t x y yt d ho hd
  split at hs
  ·rename_i u v hx hy
   split at hs
   ·rename_i r hr
    injection hs with hs; subst hs
    have hrun := run_bin (P := P) (w := w) (t := t) (x := x) (y := y) (fun hb => by
     unfold boolT at hb
     split at hb
     ·rename_i i hi
      split at hb
      ·rename_i c hz
       exact (hty t i hi).bl c (by simpa using hb) hz
      ·cases hb
     ·cases hb) hr
    refine s_value (v := .s (.lit r)) h hd (hN d hd) (u := r) ?_ (RL.one.2 rfl) hK
    unfold execOp; rw [ho]
    simp only [lit_ev h hx, lit_ev h hy]
    rw [Sem.run_bind, hrun]; rfl
   ·cases hs
  ·rename_i f sz n ls v hx hy
   split at hs
   case isFalse => cases hs
   rename_i ht
   split at hs
   ·rename_i r hr
    injection hs with hs; subst hs
    exact s_nil hty h ho hd (hN d hd) hx hy ht hr hK
   ·cases hs
  ·cases hs
 ·rename_i op t x d ho hd
  split at hs
  ·rename_i u hx
   split at hs
   ·rename_i r hr
    injection hs with hs; subst hs
    refine s_value (v := .s (.lit r)) h hd (hN d hd) (u := r) ?_ (RL.one.2 rfl) hK
    unfold execOp; rw [ho]
    simp only [lit_ev h hx]
    unfold unV at hr
    split at hr
    ·injection hr with hr; subst hr; rfl
    ·injection hr with hr; subst hr; rfl
    ·cases hr
   ·cases hs
  ·cases hs
 ·rename_i f fs cs d ho hd
  split at hs
  ·rename_i vs hv
   split at hs
   ·rename_i bs hb
    split at hs
    ·rename_i hf
     injection hs with hs; subst hs
     obtain ⟨c1, c2⟩ := caps_ev h _ _ _ hv hb
     refine s_value (v := .s (.clo f bs)) h hd (hN d hd) (u := .func (.func f) #[] (bs.map fun b => Value.pointer (some ⟨ρ b, 0, none⟩)).toArray) ?_ (RL.one.2 ⟨c2, rfl⟩) hK
     unfold execOp; rw [ho]
     have e1 : fs.map a.eval = #[] := by apply Array.toList_inj.1; simp [hf]
     have e2 : cs.map a.eval = (bs.map fun b => Value.pointer (some ⟨ρ b, 0, none⟩)).toArray := by apply Array.toList_inj.1; simpa using c1
     simp only [Instr.makeFunc, e1, e2, Sem.run_bind, Sem.run_pure, Result.andThen_ok]
    ·cases hs
   ·cases hs
  ·cases hs
 ·rename_i c d ho hd
  exact s_call hty hO h ho hd (hN d hd) hs hp hK
 ·rename_i t len ps d ho hd
  split at hs
  ·rename_i h0
   subst h0
   exact s_b0 hty h ho hd (hN d hd) hs hK
  ·exact s_bs hty h ho hd (hN d hd) hs hp hK
 ·rename_i t x y d ho hd
  exact s_mk hty h ho hd (hN d hd) hs hK
 ·rename_i t x lo hi d ho hd
  exact s_sl hty h ho hd (hN d hd) hs hK
 ·rename_i s t x d ho hd
  exact s_cv hty h ho hd (hN d hd) hs hK
 ·rename_i t x y d ho hd
  exact s_ix hty h ho hd (hN d hd) hs hK
 ·cases hs
end
end
section
section
variable {st st' : St}
theorem evs_congr {x : Operand} (h : ∀ k ∈ okeys x, look st' k = look st k) : evs st' x = evs st x := by
 cases x with
 | tmp t => exact h _ (by simp [okeys])
 | _ => rfl
theorem evl_congr {xs : List Operand} (h : ∀ k ∈ xs.flatMap okeys, look st' k = look st k) : evl st' xs = evl st xs := by
 induction xs with
 | nil => rfl
 | cons x xs ih =>
  rw [List.flatMap_cons] at h
  unfold evl
  rw [evs_congr (fun k hk => h k (List.mem_append.2 (.inl hk))), ih (fun k hk => h k (List.mem_append.2 (.inr hk)))]
theorem evp_congr {xs : List (Nat × Operand)} (h : ∀ k ∈ xs.flatMap (fun p => okeys p.2), look st' k = look st k) : evp st' xs = evp st xs := by
 induction xs with
 | nil => rfl
 | cons x xs ih =>
  obtain ⟨n, x⟩ := x
  rw [List.flatMap_cons] at h
  unfold evp
  rw [evs_congr (fun k hk => h k (List.mem_append.2 (.inl hk))), ih (fun k hk => h k (List.mem_append.2 (.inr hk)))]
theorem evd_congr {xs : List (Nat × Operand)} (h : ∀ k ∈ xs.flatMap (fun p => okeys p.2), look st' k = look st k) : ∀ n, evd st' n xs = evd st n xs := by
 induction xs with
 | nil => intro n; rfl
 | cons x xs ih =>
  intro n
  obtain ⟨j, x⟩ := x
  rw [List.flatMap_cons] at h
  unfold evd
  rw [evs_congr (fun k hk => h k (List.mem_append.2 (.inl hk))), ih (fun k hk => h k (List.mem_append.2 (.inr hk)))]
variable {ty : TypeId → Option TI} {O : Orac} {P : Program} {e : Ef} {F : Fx} {w0 : World}
theorem stepBS_congr {t : TypeId} {len d : Nat} {ps : List (Nat × Operand)} (hs : stepBS ty t len ps d st = some e) (hk : ∀ k ∈ e.2.1, look st' k = look st k) : stepBS ty t len ps d st' = some e := by
 have h0 := hs
 have hb : (∀ k ∈ ps.flatMap (fun p => okeys p.2), k ∈ e.2.1) ∧ ((∃ e0 i, ty t = some i ∧ i.el = some (e0, false)) → 2 * d + 1 ∈ e.2.1) := by
  unfold stepBS at hs
  split at hs
  ·rename_i i vs hi hv
   split at hs
   ·split at hs
    ·rename_i hel
     split at hs
     ·injection hs with hs; subst hs
      exact ⟨fun k h => h, fun ⟨e0, i', h1, h2⟩ => by rw [hi] at h1; injection h1 with h1; subst h1; rw [hel] at h2; cases h2⟩
     ·cases hs
    ·split at hs
     ·split at hs
      ·split at hs
       ·injection hs with hs; subst hs
        exact ⟨fun k h => List.mem_append.2 (.inl h), fun _ => List.mem_append.2 (.inr (by simp))⟩
       ·cases hs
      ·cases hs
     ·cases hs
    ·cases hs
   ·cases hs
  ·cases hs
 rw [← h0]
 unfold stepBS
 rw [evd_congr (fun k h => hk k (hb.1 k h))]
 cases hi : ty t with
 | none => rfl
 | some i =>
  obtain ⟨g, sz, z, zv, fl, el⟩ := i
  cases evd st 0 ps with
  | none => rfl
  | some vs =>
   cases el with
   | none => rfl
   | some p =>
    obtain ⟨e0, b⟩ := p
    cases b with
    | true => rfl
    | false => simp only [hk _ (hb.2 ⟨e0, _, hi, rfl⟩)]
theorem stepAp_congr {t u : TypeId} {x y : AV} {d : Nat} {rd : List Nat} (hs : stepAp ty t u x y rd d st = some e) (hk : ∀ k ∈ e.2.1, look st' k = look st k) : stepAp ty t u x y rd d st' = some e ∧ ∀ k ∈ rd, k ∈ e.2.1 := by
 unfold stepAp at hs
 split at hs
 case h_2 => cases hs
 rename_i i m ns rk hi hy
 have hap : (∀ k ∈ rk, look st' k = look st k) → apY st' y = some (m, ns, rk) := fun hr => by
  unfold apY at hy ⊢
  split at hy
  ·split at hy
   ·rename_i hl
    injection hy with hy; injection hy with e1 hy; injection hy with e2 e3
    subst e1; subst e2; subst e3
    simp only [hr _ (List.mem_singleton_self _), hl]
   ·cases hy
  ·exact hy
  ·cases hy
 split at hs
 case h_2 => cases hs
 rename_i e0 hel
 split at hs
 case h_2 => cases hs
 rename_i j hj
 split at hs
 case isFalse => cases hs
 rename_i hc
 split at hs
 ·split at hs
  case isFalse => cases hs
  rename_i hc2
  split at hs
  case h_2 => cases hs
  rename_i hn
  injection hs with hs; subst hs
  have h1 := hap fun k h => hk k (by simp [h])
  have h2 := hk (2 * d + 1) (by simp)
  refine ⟨?_, fun k h => by simp [h]⟩
  unfold stepAp
  simp only [hi, hel, h1, hj, if_pos hc, if_pos hc2, h2, hn]
 ·split at hs
  case isFalse => cases hs
  rename_i hc2
  split at hs
  case h_2 => cases hs
  rename_i hn
  injection hs with hs; subst hs
  have h1 := hap fun k h => hk k (by simp [h])
  have h2 := hk (2 * d + 1) (by simp)
  refine ⟨?_, fun k h => by simp [h]⟩
  unfold stepAp
  simp only [hi, hel, h1, hj, if_pos hc, if_pos hc2, h2, hn]
 ·rename_i b k
  split at hs
  case h_2 => cases hs
  rename_i e1 s1 ls hlo
  split at hs
  case isFalse => cases hs
  rename_i hc2
  injection hs with hs; subst hs
  have h1 := hap fun k h => hk k (by simp [h])
  have h2 := hk (2 * b + 1) (by simp)
  refine ⟨?_, fun k h => by simp [h]⟩
  unfold stepAp
  simp only [hi, hel, h1, hj, if_pos hc, h2, hlo, if_pos hc2]
 ·cases hs
theorem stepB0_congr {t : TypeId} {d : Nat} {ps : List (Nat × Operand)} (hs : stepB0 ty t ps d st = some e) (hk : ∀ k ∈ e.2.1, look st' k = look st k) : stepB0 ty t ps d st' = some e := by
 unfold stepB0 at hs
 split at hs
 case h_2 => cases hs
 rename_i i hi
 split at hs
 case h_2 => cases hs
 rename_i e0 b0 hel hn
 split at hs
 case h_2 => cases hs
 rename_i j hj
 injection hs with hs; subst hs
 have h2 := hk (2 * d + 1) (by simp)
 unfold stepB0
 simp only [hi, hel, h2, hn, hj]
theorem stepMk_congr {t : TypeId} {x y : Operand} {d : Nat} (hs : stepMk ty t x y d st = some e) (hk : ∀ k ∈ e.2.1, look st' k = look st k) : stepMk ty t x y d st' = some e := by
 unfold stepMk at hs
 split at hs
 case h_2 => cases hs
 rename_i i n c hi hx hy
 split at hs
 case h_2 => cases hs
 rename_i e0 hel hn
 split at hs
 case h_2 => cases hs
 rename_i j hj
 split at hs
 ·rename_i hc
  injection hs with hs; subst hs
  have h2 := hk (2 * d + 1) (by simp)
  unfold stepMk
  simp only [hi, hel, h2, hn, hj, if_pos hc, evs_congr (x := x) (fun k h => hk k (by simp [h])), evs_congr (x := y) (fun k h => hk k (by simp [h])), hx, hy]
 ·rename_i hc0
  split at hs
  case isFalse => cases hs
  rename_i hc
  injection hs with hs; subst hs
  have h2 := hk (2 * d + 1) (by simp)
  unfold stepMk
  simp only [hi, hel, h2, hn, hj, if_neg hc0, if_pos hc, evs_congr (x := x) (fun k h => hk k (by simp [h])), evs_congr (x := y) (fun k h => hk k (by simp [h])), hx, hy]
theorem optI_congr {x : Option Operand} {z : Nat} (h : ∀ k ∈ okO x, look st' k = look st k) : optI st' x z = optI st x z := by
 cases x with
 | none => rfl
 | some y => unfold optI; simp only [evs_congr (x := y) h]
theorem stepSl_congr {t : TypeId} {x : Operand} {lo hi : Option Operand} {d : Nat} (hs : stepSl ty t x lo hi d st = some e) (hk : ∀ k ∈ e.2.1, look st' k = look st k) : stepSl ty t x lo hi d st' = some e := by
 unfold stepSl at hs
 split at hs
 ·rename_i i f sz n ls hi' hx
  split at hs
  case h_2 => cases hs
  rename_i e0 b0 l hh hel hl hhh
  split at hs
  case h_2 => cases hs
  rename_i j hj
  split at hs
  case isFalse => cases hs
  rename_i hc
  injection hs with hs; subst hs
  unfold stepSl
  simp only [hi', hel, hj, if_pos hc, evs_congr (x := x) (fun k h => hk k (by simp [h])), hx, optI_congr (x := lo) (fun k h => hk k (by simp [h])), optI_congr (x := hi) (fun k h => hk k (by simp [h])), hl, hhh]
 ·rename_i i b k0 hi' hx
  split at hs
  case h_2 => cases hs
  rename_i e0 b0 l hh e1 sz ls hel hl hhh hlk
  split at hs
  case h_2 => cases hs
  rename_i j hj
  split at hs
  case isFalse => cases hs
  rename_i hc
  injection hs with hs; subst hs
  unfold stepSl
  simp only [hi', hel, hj, if_pos hc, evs_congr (x := x) (fun k h => hk k (by simp [h])), hx, optI_congr (x := lo) (fun k h => hk k (by simp [h])), optI_congr (x := hi) (fun k h => hk k (by simp [h])), hk (2 * b + 1) (by simp), hlk, hl, hhh]
 ·cases hs
theorem stepBi_congr {b : Builtin} {ts : List TypeId} {xs : List Operand} {d : Nat} (hs : stepBi ty b ts xs d st = some e) (hk : ∀ k ∈ e.2.1, look st' k = look st k) : stepBi ty b ts xs d st' = some e := by
 have hb : ∀ k ∈ xs.flatMap okeys, k ∈ e.2.1 := by
  unfold stepBi at hs
  split at hs
  ·split at hs
   ·split at hs
    ·injection hs with hs; subst hs; exact fun k h => h
    ·cases hs
   ·cases hs
  ·split at hs
   ·split at hs
    ·injection hs with hs; subst hs; exact fun k h => h
    ·cases hs
   ·cases hs
  ·exact (stepAp_congr hs hk).2
  ·injection hs with hs; subst hs; exact fun k h => h
  ·injection hs with hs; subst hs; exact fun k h => h
  ·cases hs
 have he := evl_congr (fun k h => hk k (hb k h))
 unfold stepBi at hs ⊢
 rw [he]
 split at hs
 case h_3 => exact (stepAp_congr hs hk).1
 case h_6 => cases hs
 all_goals exact hs
theorem stepCv_congr {s t : TypeId} {x : Operand} {d : Nat} (hs : stepCv ty s t x d st = some e) (hk : ∀ k ∈ e.2.1, look st' k = look st k) : stepCv ty s t x d st' = some e := by
 have h0 := hs
 have hb : ∀ k ∈ okeys x, k ∈ e.2.1 := by
  unfold stepCv at hs
  split at hs
  ·split at hs
   ·injection hs with hs; subst hs; exact fun k h => h
   ·cases hs
  ·cases hs
 rw [← h0]
 unfold stepCv
 rw [evs_congr (fun k h => hk k (hb k h))]
theorem stepIx_congr {t : TypeId} {x y : Operand} {d : Nat} (hs : stepIx ty t x y d st = some e) (hk : ∀ k ∈ e.2.1, look st' k = look st k) : stepIx ty t x y d st' = some e := by
 have h0 := hs
 have fin : (∀ k ∈ okeys x, k ∈ e.2.1) ∧ (∀ k ∈ okeys y, k ∈ e.2.1) → (∀ b k, evs st x = some (.v false [.ol b k]) → 2 * b + 1 ∈ e.2.1) → (∀ b k o n, evs st x = some (.v false [.ov b k o n]) → 2 * b + 1 ∈ e.2.1) → stepIx ty t x y d st' = some e := fun hb hb2 hb3 => by
  rw [← h0]
  unfold stepIx
  rw [evs_congr (fun k h => hk k (hb.1 k h)), evs_congr (fun k h => hk k (hb.2 k h))]
  split
  ·rfl
  ·rfl
  ·rename_i hx hy; rw [hk _ (hb2 _ _ hx)]
  ·rename_i hx hy; rw [hk _ (hb3 _ _ _ _ hx)]
  ·rfl
 unfold stepIx at hs
 split at hs
 ·rename_i hx hy
  split at hs
  ·split at hs
   ·split at hs
    ·injection hs with hs; subst hs; exact fin ⟨fun k h => List.mem_append.2 (.inl h), fun k h => List.mem_append.2 (.inr h)⟩ (fun b k h => by rw [hx] at h; injection h with h; cases h) (fun b k o n h => by rw [hx] at h; injection h with h; cases h)
    ·cases hs
   ·cases hs
  ·cases hs
 ·rename_i hx hy
  split at hs
  ·split at hs
   ·split at hs
    ·injection hs with hs; subst hs; exact fin ⟨fun k h => List.mem_append.2 (.inl h), fun k h => List.mem_append.2 (.inr h)⟩ (fun b k h => by rw [hx] at h; injection h with h; cases h) (fun b k o n h => by rw [hx] at h; injection h with h; cases h)
    ·cases hs
   ·cases hs
  ·cases hs
 ·rename_i b k0 k hi hx hy
  split at hs
  ·split at hs
   ·split at hs
    ·injection hs with hs; subst hs; exact fin ⟨fun k h => by simp [h], fun k h => by simp [h]⟩ (fun b' k' h => by rw [hx] at h; injection h with h; injection h with _ h; injection h with h _; injection h with h h'; subst h; simp) (fun b' k' o' n' h => by rw [hx] at h; injection h with h; injection h with _ h; injection h with h _; cases h)
    ·cases hs
   ·cases hs
  ·cases hs
 ·rename_i b k0 o0 n0 k hi hx hy
  split at hs
  ·split at hs
   ·split at hs
    ·injection hs with hs; subst hs; exact fin ⟨fun k h => by simp [h], fun k h => by simp [h]⟩ (fun b' k' h => by rw [hx] at h; injection h with h; injection h with _ h; injection h with h _; cases h) (fun b' k' o' n' h => by rw [hx] at h; injection h with h; injection h with _ h; injection h with h _; injection h with h h'; subst h; simp)
    ·cases hs
   ·cases hs
  ·cases hs
 ·cases hs
theorem stepOp_congr (hO : OrOK P O F w0) {op : Op} {dst : Option Nat} (hs : stepOp ty O op dst st = some e) (hk : ∀ k ∈ e.2.1, look st' k = look st k) : stepOp ty O op dst st' = some e := by
 have h0 := hs
 unfold stepOp at hs
 split at hs
 ·rename_i x d
  split at hs
  ·injection hs with hs; subst hs
   rw [← h0]; unfold stepOp; simp only [evs_congr hk]
  ·cases hs
 ·rename_i x d
  split at hs
  ·injection hs with hs; subst hs
   rw [← h0]; unfold stepOp; simp only [evs_congr hk]
  ·cases hs
 ·rename_i t d
  split at hs
  ·split at hs
   ·injection hs with hs; subst hs
    rw [← h0]; unfold stepOp; simp only [hk (2 * d + 1) (by simp)]
   ·cases hs
  ·cases hs
 ·rename_i t x d
  split at hs
  ·split at hs
   ·injection hs with hs; subst hs
    rw [← h0]; unfold stepOp; simp only [hk (2 * d + 1) (by simp), evs_congr (fun k h => hk k (List.mem_append.2 (.inl h)))]
   ·cases hs
  ·cases hs
 ·rename_i t ps d
  split at hs
  ·split at hs
   ·split at hs
    ·injection hs with hs; subst hs
     rw [← h0]; unfold stepOp; simp only [evp_congr hk]
    ·cases hs
   ·cases hs
  ·cases hs
 ·rename_i t x d
  rw [← h0]
  unfold stepLoad at hs
  split at hs
  ·rename_i b off hx
   have hb : 2 * b + 1 ∈ e.2.1 ∧ (∀ k ∈ okeys x, k ∈ e.2.1) := by
    split at hs
    ·split at hs
     ·split at hs
      ·injection hs with hs; subst hs; simp; exact fun k h => .inl h
      ·cases hs
     ·split at hs
      ·injection hs with hs; subst hs; simp; exact fun k h => .inl h
      ·cases hs
    ·cases hs
   unfold stepOp stepLoad
   simp only [evs_congr (fun k h => hk k (hb.2 k h)), hx, hk _ hb.1]
  ·rename_i ls hx
   have hb : ∀ k ∈ okeys x, k ∈ e.2.1 := by
    split at hs
    ·split at hs
     ·split at hs
      ·injection hs with hs; subst hs; exact fun k h => h
      ·cases hs
     ·split at hs
      ·injection hs with hs; subst hs; exact fun k h => h
      ·cases hs
    ·cases hs
   unfold stepOp stepLoad
   simp only [evs_congr (fun k h => hk k (hb k h)), hx]
  ·rename_i b k0 o' hx
   have hb : 2 * b + 1 ∈ e.2.1 ∧ (∀ k ∈ okeys x, k ∈ e.2.1) := by
    split at hs
    ·split at hs
     ·split at hs
      ·split at hs
       ·injection hs with hs; subst hs; simp; exact fun k h => .inl h
       ·cases hs
      ·split at hs
       ·injection hs with hs; subst hs; simp; exact fun k h => .inl h
       ·cases hs
     ·cases hs
    ·cases hs
   unfold stepOp stepLoad
   simp only [evs_congr (fun k h => hk k (hb.2 k h)), hx, hk _ hb.1]
  ·cases hs
 ·rename_i t x y
  rw [← h0]
  unfold stepStore at hs
  split at hs
  ·rename_i b off g us hx hy
   have hb : 2 * b + 1 ∈ e.2.1 ∧ (∀ k ∈ okeys x, k ∈ e.2.1) ∧ (∀ k ∈ okeys y, k ∈ e.2.1) := by
    split at hs
    ·split at hs
     ·injection hs with hs; subst hs; simp; exact ⟨fun k h => .inl h, fun k h => .inr (.inl h)⟩
     ·cases hs
    ·cases hs
   unfold stepOp stepStore
   simp only [evs_congr (fun k h => hk k (hb.2.1 k h)), evs_congr (fun k h => hk k (hb.2.2 k h)), hx, hy, hk _ hb.1]
  ·rename_i b k0 o' g us hx hy
   have hb : 2 * b + 1 ∈ e.2.1 ∧ (∀ k ∈ okeys x, k ∈ e.2.1) ∧ (∀ k ∈ okeys y, k ∈ e.2.1) := by
    split at hs
    ·split at hs
     ·injection hs with hs; subst hs; simp; exact ⟨fun k h => .inl h, fun k h => .inr (.inl h)⟩
     ·cases hs
    ·cases hs
   unfold stepOp stepStore
   simp only [evs_congr (fun k h => hk k (hb.2.1 k h)), evs_congr (fun k h => hk k (hb.2.2 k h)), hx, hy, hk _ hb.1]
  ·cases hs
 ·rename_i t x k d
  split at hs
  ·split at hs
   ·injection hs with hs; subst hs
    rw [← h0]; unfold stepOp; simp only [evs_congr hk]
   ·cases hs
  ·split at hs
   ·split at hs
    ·injection hs with hs; subst hs
     rw [← h0]; unfold stepOp; simp only [evs_congr hk]
    ·cases hs
   ·cases hs
  ·split at hs
   ·injection hs with hs; subst hs
    rw [← h0]; unfold stepOp; simp only [evs_congr hk]
   ·cases hs
  ·cases hs
 ·rename_i t x k d
  rw [← h0]
  unfold stepField at hs
  split at hs
  ·have hb : ∀ k ∈ okeys x, k ∈ e.2.1 := by
    split at hs
    ·split at hs
     ·split at hs
      ·injection hs with hs; subst hs; exact fun k h => h
      ·split at hs
       ·injection hs with hs; subst hs; exact fun k h => h
       ·cases hs
     ·cases hs
    ·cases hs
   unfold stepOp stepField
   simp only [evs_congr (fun k h => hk k (hb k h))]
  ·cases hs
 ·rename_i x k d
  split at hs
  ·split at hs
   ·injection hs with hs; subst hs
    rw [← h0]; unfold stepOp; simp only [evs_congr hk]
   ·cases hs
  ·cases hs
 ·rename_i op t x y yt d
  split at hs
  ·split at hs
   ·injection hs with hs; subst hs
    rw [← h0]; unfold stepOp; simp only [evs_congr (x := x) (fun k h => hk k (List.mem_append.2 (.inl h))), evs_congr (x := y) (fun k h => hk k (List.mem_append.2 (.inr h)))]
   ·cases hs
  ·rename_i f sz n ls v hx hy
   by_cases ht : slT ty t = true
   ·rw [if_pos ht] at hs
    split at hs
    ·injection hs with hs; subst hs
     rw [← h0]; unfold stepOp; simp only [evs_congr (x := x) (fun k h => hk k (List.mem_append.2 (.inl h))), evs_congr (x := y) (fun k h => hk k (List.mem_append.2 (.inr h)))]
    ·cases hs
   ·rw [if_neg ht] at hs; cases hs
  ·cases hs
 ·rename_i op t x d
  split at hs
  ·split at hs
   ·injection hs with hs; subst hs
    rw [← h0]; unfold stepOp; simp only [evs_congr hk]
   ·cases hs
  ·cases hs
 ·rename_i f fs cs d
  split at hs
  ·split at hs
   ·split at hs
    ·injection hs with hs; subst hs
     rw [← h0]; unfold stepOp; simp only [evl_congr hk]
    ·cases hs
   ·cases hs
  ·cases hs
 ·rename_i c d
  have h1 := hs
  unfold stepCall at hs
  split at hs
  ·rename_i g hg
   split at hs
   ·rename_i f caps vs hx hv
    split at hs
    ·rename_i pre rds ups hq
     injection hs with hs; subst hs
     have e1 : evs st' g = evs st g := evs_congr (fun k h => hk k (by simp [h]))
     have e2 : evl st' c.args.toList = evl st c.args.toList := evl_congr (fun k h => hk k (by
      rw [List.mem_append, List.mem_append]; exact .inl (.inr h)))
     have e3 := hO.cong _ _ _ st' _ _ hq (fun k h => hk k (by rw [List.mem_append]; exact .inr h))
     unfold stepOp stepCall
     simp only [hg, e1, e2, hx, hv, e3]
    ·cases hs
   ·rename_i f fs caps vs hx hv
    split at hs
    case isFalse => cases hs
    rename_i hfs
    split at hs
    ·rename_i pre rds ups hq
     injection hs with hs; subst hs
     have e1 : evs st' g = evs st g := evs_congr (fun k h => hk k (by simp [h]))
     have e2 : evl st' c.args.toList = evl st c.args.toList := evl_congr (fun k h => hk k (by
      rw [List.mem_append, List.mem_append]; exact .inl (.inr h)))
     have e3 := hO.cong _ _ _ st' _ _ hq (fun k h => hk k (by rw [List.mem_append]; exact .inr h))
     unfold stepOp stepCall
     simp only [hg, e1, e2, hx, hv, e3, if_pos hfs]
    ·cases hs
   ·cases hs
  ·rename_i b hcb
   unfold stepOp stepCall
   simp only [hcb]
   exact stepBi_congr hs hk
  ·cases hs
 ·rename_i t len ps d
  show (if len = 0 then stepB0 ty t ps.toList d st' else stepBS ty t len ps.toList d st') = some e
  split at hs
  ·rename_i h00
   rw [if_pos h00]
   exact stepB0_congr hs hk
  ·rename_i h00
   rw [if_neg h00]
   exact stepBS_congr hs hk
 ·exact stepMk_congr hs hk
 ·exact stepSl_congr hs hk
 ·exact stepCv_congr hs hk
 ·exact stepIx_congr hs hk
 ·cases hs
def skipE (dst : Option Nat) (rd : List Nat) : Ef := (True, rd, match dst with
 | some d => [(2 * d, .s (.lit (.tuple #[])))]
 | none => [])
def addR (rd : List Nat) : Option Ef → Option Ef
 | some e => some (e.1, rd ++ e.2.1, e.2.2)
 | none => none
def bodyE (ty : TypeId → Option TI) (O : Orac) (o : Oper) (st : St) : Option Ef := match o.op, o.dst with
 | .pick c x y, some d => (match evs st c, evs st x, evs st y with
  | some (.v false [.lit (.bool true)]), some v, _ => some (True, okeys c ++ okeys x, [(2 * d, v)])
  | some (.v false [.lit (.bool false)]), _, some v => some (True, okeys c ++ okeys y, [(2 * d, v)])
  | _, _, _ => none)
 | op, dst => stepOp ty O op dst st
def opf (ty : TypeId → Option TI) (O : Orac) (ops : Array Oper) (o : Oper) (st : St) : Option Ef := match o.guard with
 | none => bodyE ty O o st
 | some (j, want) => (match (ops[j]?).bind (·.dst) with
  | some g => (match look st (2 * g) with
   | some (.v false [.lit (.bool b)]) => if b = want then addR [2 * g] (bodyE ty O o st) else some (skipE o.dst [2 * g])
   | some (.v false [.lit (.tuple _)]) => some (skipE o.dst [2 * g])
   | _ => none)
  | none => none)
theorem bodyE_congr (hO : OrOK P O F w0) {o : Oper} (hs : bodyE ty O o st = some e) (hk : ∀ k ∈ e.2.1, look st' k = look st k) : bodyE ty O o st' = some e := by
 have h0 := hs
 unfold bodyE at hs
 split at hs
 ·rename_i c x y d ho hd
  unfold bodyE
  simp only [ho, hd]
  split at hs
  ·rename_i v h1 h2
   injection hs with hs; subst hs
   simp only [evs_congr (x := c) (fun k h => hk k (List.mem_append.2 (.inl h))), evs_congr (x := x) (fun k h => hk k (List.mem_append.2 (.inr h))), h1, h2]
  ·rename_i v h1 h2
   injection hs with hs; subst hs
   simp only [evs_congr (x := c) (fun k h => hk k (List.mem_append.2 (.inl h))), evs_congr (x := y) (fun k h => hk k (List.mem_append.2 (.inr h))), h1, h2]
  ·cases hs
 ·rename_i op dst hne
  unfold bodyE
  split
  ·rename_i c x y d ho hd
   exact absurd hd (by intro h; exact hne _ _ _ _ ho h)
  ·exact stepOp_congr hO hs hk
theorem opf_congr (hO : OrOK P O F w0) {ops : Array Oper} {o : Oper} (hs : opf ty O ops o st = some e) (hk : ∀ k ∈ e.2.1, look st' k = look st k) : opf ty O ops o st' = some e := by
 unfold opf at hs ⊢
 split at hs
 ·exact bodyE_congr hO hs hk
 ·rename_i j want hg
  split at hs
  ·rename_i g hj
   split at hs
   ·rename_i b hb
    split at hs
    ·rename_i hw
     unfold addR at hs
     split at hs
     ·rename_i e' he
      injection hs with hs; subst hs
      have h1 := hk (2 * g) (by simp)
      have h2 := bodyE_congr hO he (fun k h => hk k (by simp [h]))
      simp only [h1, hb, if_pos hw, addR, h2]
     ·cases hs
    ·rename_i hw
     injection hs with hs; subst hs
     have h1 := hk (2 * g) (by simp [skipE])
     simp only [h1, hb, if_neg hw]
   ·rename_i vs hb
    injection hs with hs; subst hs
    have h1 := hk (2 * g) (by simp [skipE])
    simp only [h1, hb]
   ·cases hs
  ·cases hs
end
section
variable {P : Program} {F : Fx} {w0 w : World} {N : Nat} {ρ : Env} {st : St} {a : Act} {o : Oper} {K : Act → World → Prop} {Q : Exit → Act → World → Prop} {ty : TypeId → Option TI} {O : Orac} {e : Ef}
theorem bodyE_sound (hty : ∀ t i, ty t = some i → TiOK P t i) (hO : OrOK P O F w0) (h : Cz F w0 N ρ st a w) (hs : bodyE ty O o st = some e) (hp : e.1) (hN : ∀ d, o.dst = some d → d < N)
  (hK : ∀ ρ' u w', Cz F w0 N ρ' (e.2.2 ++ st) (a.put o.dst u) w' → K (a.put o.dst u) w') : o.wp P a w K Q := by
 unfold bodyE at hs
 split at hs
 ·rename_i c x y d ho hd
  split at hs
  ·rename_i v h1 h2
   injection hs with hs; subst hs
   refine s_value (v := v) h hd (hN d hd) (u := a.eval x) ?_ (h.ev h2) hK
   unfold execOp; rw [ho]; simp only [lit_ev h h1, asBool, Sem.run_bind, Sem.run_pure, Result.andThen_ok]; rfl
  ·rename_i v h1 h2
   injection hs with hs; subst hs
   refine s_value (v := v) h hd (hN d hd) (u := a.eval y) ?_ (h.ev h2) hK
   unfold execOp; rw [ho]; simp only [lit_ev h h1, asBool, Sem.run_bind, Sem.run_pure, Result.andThen_ok]; rfl
  ·cases hs
 ·exact step_sound hty hO h hs hp hN hK
theorem skip_cz (h : Cz F w0 N ρ st a w) (hN : ∀ d, o.dst = some d → d < N) (rd : List Nat) : Cz F w0 N ρ ((skipE o.dst rd).2.2 ++ st) (a.put o.dst undef) w := by
 unfold skipE
 cases hd : o.dst with
 | none => exact h
 | some d => exact h.val (Below.refl _ _) (hN d hd) (RL.one.2 rfl)
theorem opf_sound (hty : ∀ t i, ty t = some i → TiOK P t i) (hO : OrOK P O F w0) {ops : Array Oper} {i : Nat} (hi : ops[i]? = some o) (h : Cz F w0 N ρ st a w) (hs : opf ty O ops o st = some e) (hp : e.1) (hN : ∀ d, o.dst = some d → d < N)
  (hK : ∀ ρ' u w', Cz F w0 N ρ' (e.2.2 ++ st) (a.put o.dst u) w' → K (a.put o.dst u) w') : wpOp P ops Q i K a w := by
 unfold wpOp
 simp only [hi]
 unfold opf at hs
 split at hs
 ·rename_i hg
  rw [if_pos (want_none hg)]
  exact .inl (bodyE_sound hty hO h hs hp hN hK)
 ·rename_i j want hg
  split at hs
  ·rename_i g hj
   split at hs
   ·rename_i b hb
    obtain ⟨u, hu, hr⟩ := h.sl g _ hb
    have hub : u = .bool b := RL.one.1 hr
    subst hub
    have hy : yielded ops a.tmps j = some b := by unfold yielded; rw [hj]; simp [hu]
    split at hs
    ·rename_i hw
     unfold addR at hs
     split at hs
     ·rename_i e' he
      injection hs with hs; subst hs
      rw [if_pos (by unfold Region.wanted; rw [hg]; simp [hy, hw])]
      exact .inl (bodyE_sound hty hO h he hp hN hK)
     ·cases hs
    ·rename_i hw
     injection hs with hs; subst hs
     rw [if_neg (by unfold Region.wanted; rw [hg]; simp [hy]; exact hw)]
     exact hK ρ undef w (skip_cz h hN _)
   ·rename_i vs hb
    obtain ⟨u, hu, hr⟩ := h.sl g _ hb
    have hub : u = .tuple vs := RL.one.1 hr
    subst hub
    injection hs with hs; subst hs
    have hy : yielded ops a.tmps j = none := by unfold yielded; rw [hj]; simp [hu]
    rw [if_neg (by unfold Region.wanted; rw [hg]; simp [hy])]
    exact hK ρ undef w (skip_cz h hN _)
   ·cases hs
  ·cases hs
end
end
end Go.Proofs.YtobcbhppmgnioaaGreatDoor
